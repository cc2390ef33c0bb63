/- The reference's end: Got. -/
import Derived.Test.YthchicolifkpiaaDoorRTake
namespace Go.Proofs.YthchicolifkpiaaDoor
open Go.RowKit
set_option linter.unusedVariables false

def bodies (K : List TB) : List (ByteArray × Bool) := K.map fun x => (x.b, x.m)
theorem bodies_snoc (K : List TB) (x : TB) : bodies (K ++ [x]) = bodies K ++ [(x.b, x.m)] := by simp [bodies]
theorem cellsB_at (K : List TB) (i : Nat) (x : TB) (h : K[i]? = some x) : (cellsB K)[i * 5 + 2]? = some (.bool x.m) ∧ (cellsB K)[i * 5 + 4]? = some (.string x.b) := by
  induction K generalizing i with
  | nil => simp at h
  | cons y r ih =>
    have e : cellsB (y :: r) = [.int .i64 y.t, .int .i64 y.n, .bool y.m, .bool y.h, .string y.b] ++ cellsB r := by simp [cellsB]
    rw [e]
    cases i with
    | zero => simp at h; subst h; simp
    | succ i =>
      simp only [List.getElem?_cons_succ] at h
      obtain ⟨h2, h4⟩ := ih i h
      refine ⟨?_, ?_⟩
      · rw [List.getElem?_append_right (by simp; omega), show (i + 1) * 5 + 2 - [Value.int .i64 y.t, .int .i64 y.n, .bool y.m, .bool y.h, .string y.b].length = i * 5 + 2 by simp; omega]; exact h2
      · rw [List.getElem?_append_right (by simp; omega), show (i + 1) * 5 + 4 - [Value.int .i64 y.t, .int .i64 y.n, .bool y.m, .bool y.h, .string y.b].length = i * 5 + 4 by simp; omega]; exact h4
theorem inL_take (K : List TB) (i : Nat) (x : TB) (h : K[i]? = some x) : inL (bodies (K.take (i + 1))) = inStep (inL (bodies (K.take i))) (x.b, x.m) := by
  have hk : i < K.length := by
    rcases Nat.lt_or_ge i K.length with h' | h'
    · exact h'
    · rw [List.getElem?_eq_none h'] at h; cases h
  rw [List.getElem?_eq_getElem hk] at h
  rw [List.take_succ_eq_append_getElem hk, Option.some.inj h, bodies_snoc, inL_snoc]
theorem inL_bound (K : List TB) (hb : ∀ x ∈ K, x.b.size ≤ 32) : ∀ i, i ≤ K.length → (inL (bodies (K.take i))).2.size ≤ 32 * i ∧ (inL (bodies (K.take i))).1.length ≤ i := by
  intro i
  induction i with
  | zero => intro _; simp [bodies, inL]
  | succ i ih =>
    intro hi
    obtain ⟨h1, h2⟩ := ih (by omega)
    have hx := List.getElem?_eq_getElem (show i < K.length by omega)
    rw [inL_take K i _ hx]
    have hbx := hb (K[i]'(by omega)) (List.getElem_mem _)
    unfold inStep
    split
    · simp only [ByteArray.size_append]; omega
    · refine ⟨by simp only []; exact Nat.le_trans (Nat.le_of_eq rfl) (Nat.zero_le _), ?_⟩
      simp only []
      split
      · simp only [List.length_append, List.length_singleton]; omega
      · omega

theorem own_sliceR {w : World} {base : Nat} {e : TypeId} {size : Nat} {v : Value} {n : Nat} {xs : List Value} (h : w.ownsRow base e size v n xs) : ∃ a c, v = .slice a n c := by
  rcases h.2 with ⟨h1, h2⟩ | ⟨g, cap, cur, h1, _⟩
  · exact ⟨none, 0, by rw [h1, h2]⟩
  · exact ⟨_, cap, h1⟩
def rgotQ (w : World) (go : Option Addr) (gn gc : Nat) (A ago : Int) (ko : Option Addr) (K : List TB) (kc : Nat) (o : Bool) (told : Nat) (e : Ending) (w' : World) : Prop :=
  Below w.heap.size w w' ∧ ∃ ao c, e = .returned (.tuple #[rend go gn gc A ago ko K.length kc o ((inL (bodies K)).1.length : Int), .slice ao ((inL (bodies K)).1.length - told) c]) ∧ SRow w' ao ((inL (bodies K)).1.drop told) ∧ ∀ q off, ao = some ⟨q, off, none⟩ → w.heap.size ≤ q

set_option maxRecDepth 100000 in
set_option maxHeartbeats 4000000 in
theorem rgot_any (w : World) (go : Option Addr) (gn gc : Nat) (A ago : Int) (ko : Option Addr) (K : List TB) (kc : Nat) (o : Bool) (told : Nat) (hk : KRow w ko kc K) (hkl : (K.length : Int) ≤ 1048576) (hb : ∀ x ∈ K, x.b.size ≤ 32) (htold : told ≤ (inL (bodies K)).1.length) :
    Calls Tryd.prog 16 #[rend go gn gc A ago ko K.length kc o (told : Int)] w (rgotQ w go gn gc A ago ko K kc o told) := by
  obtain ⟨i0, hi, hz0, hz1, hz2⟩ := info_parts' infoStr
  have hbd := inL_bound K hb
  obtain ⟨W0, hW0⟩ : ∃ W0, W0 = (w.alloc (.cells #[.slice go gn gc, .int .i64 A, .int .i64 ago, .slice ko K.length kc, .bool o, .int .i64 told] 28)).alloc (.cells #[.slice none 0 0, .int .i64 0, .int .i64 0, .slice none 0 0, .bool false, .int .i64 0] 28) := ⟨_, rfl⟩
  have hw1 : Below w.heap.size w W0 := by rw [hW0]; exact two_below w _ _
  have hbr : Below W0.heap.size W0 W0 := Below.refl _ _
  rw [hW0] at hbr
  obtain ⟨q1, q2⟩ := two_kept hbr
  rw [← hW0] at q1 q2
  have hs0 : W0.heap.size = w.heap.size + 2 := by rw [hW0]; simp
  have HW0 := hide hW0; have HBD := hide hbd; have HTO := hide htold
  have HK := hide (hk.below hw1)
  have Q1 := hide q1; have Q2 := hide q2; have HB1 := hide hw1; have HS0 := hide hs0; have HBB := hide hb
  clear hbr hW0 hk hb htold hbd q1 q2 hw1 hs0
  go_enter Tryd.func16, Tryd.ntmps16
  go_upto_region 1 with fail
  rw [← unhide HW0]
  go_wp2
  go_loopw [4, 5, 6] (fun v s i wr => ∃ k : Nat, k ≤ K.length ∧ i = .int .i64 k ∧ s = .string (inL (bodies (K.take k))).2 ∧ wr.ownsRow W0.heap.size 9 1 v (inL (bodies (K.take k))).1.length (cellsT (inL (bodies (K.take k))).1) ∧ Below W0.heap.size W0 wr) (fun _ _ i _ => K.length - (intOf i).toNat)
  case atStart => exact ⟨0, Nat.zero_le _, rfl, by simp [bodies, inL]; rfl, by simp [bodies, inL, cellsT]; exact World.ownsRow_nil _ _ _ _, Below.refl _ _⟩
  case round =>
    obtain ⟨k, hk, rfl, rfl, hv, hbw⟩ := hrel
    have r1 : wr.heap[w.heap.size]? = _ := (hbw.block _ (by have := unhide HS0; omega)).trans (unhide Q1)
    obtain ⟨⟨c0, c1, c2, c3, c4, c5⟩, e0, e1, e2, e3, e4, e5⟩ := six_cells r1
    by_cases hlt : k < K.length
    · obtain ⟨x, hx⟩ : ∃ x, K[k]? = some x := ⟨_, List.getElem?_eq_getElem hlt⟩
      rcases unhide HK with ⟨hn, _⟩ | ⟨_, kb, rfl, hkb, hkc⟩
      · rw [hn] at hlt; simp at hlt
      obtain ⟨u2, u4⟩ := cellsB_at K k x hx
      have v2 := (hbw.cell (by rw [addr_add_block]; exact hkb)).trans (hkc _ _ u2)
      have v4 := (hbw.cell (by rw [addr_add_block]; exact hkb)).trans (hkc _ _ u4)
      have ea : ∀ i, (⟨kb, 0, none⟩ : Addr).add i = ⟨kb, i, none⟩ := fun i => by unfold Addr.add; split <;> simp_all
      rw [ea] at v2 v4
      obtain ⟨hb1, hb2⟩ := unhide HBD k hk
      have hbx := unhide HBB x (List.mem_of_getElem? hx)
      have HST := hide (inL_take K k x hx)
      have hki : (k : Int) < (K.length : Int) := by omega
      generalize inL (bodies (K.take k)) = st at *
      obtain ⟨al, tx⟩ := st
      simp only at hb1 hb2 hv
      have hadd := fun w' => run_string_add_sum (P := Tryd.prog) w' tx x.b (by omega)
      have hsz : ((tx ++ x.b).size : Int) ≤ 33554464 := by rw [ByteArray.size_append]; omega
      obtain ⟨xt, xn, xm, xh, xb⟩ := x
      simp only at *
      obtain ⟨va, vc, rfl⟩ := own_sliceR hv
      have HV := hide hv
      have HMX := hide (show al.length + 1 ≤ maxLen by unfold maxLen; omega)
      have HMB := hide (show (al.length + 1) * 16 ≤ 140737488355328 by omega)
      have HWZ := hide hbw.size
      clear hv u2 u4 hkc hbx hb1 hb2 ea hx
      cases xm with
      | true =>
        have HS2 := hide (show inL (bodies (K.take (k + 1))) = (al, tx ++ xb) by rw [unhide HST, inStep, if_pos rfl])
        go_wp2
        go_roundw
        case rel => exact ⟨k + 1, by omega, by go_num, by rw [unhide HS2], by rw [unhide HS2]; exact unhide HV, hbw⟩
        case measure => simp [intOf]; omega
      | false =>
        by_cases h4 : (tx ++ xb).size ≤ 4096
        · have h4' : ((tx ++ xb).size : Int) ≤ 4096 := by omega
          have HS2 := hide (show inL (bodies (K.take (k + 1))) = (al ++ [tx ++ xb], ByteArray.empty) by rw [unhide HST, inStep, if_neg (by simp), if_pos h4])
          generalize tx ++ xb = ty at *
          clear h4
          go_wp2_with (at_builtin; refine wpList_append_lies _ rfl _ _ 25 rfl W0.heap.size 9 i0 (.string ⟨#[]⟩) 1 16 Tryd.underlying25 hi hz0 hz1 hz2 rfl (by decide) _ _ _ rfl (World.ownsRow.alloc (unhide HV) _) ⟨wr.heap.size, 0, none⟩ 1 1 [.string ty] rfl rfl (World.news_of_block (heap_alloc_new _ _)) ?c2 ?c3 ?c4 ?c5 ?c6 (wr.heap.size + 1) ?c7 ?_)
          case c2 => intro u hu; simp at hu; subst hu; rfl
          case c3 => omega
          case c4 => exact unhide HMX
          case c5 => exact unhide HMB
          case c6 => have := unhide HWZ; simp; omega
          case c7 => simp
          intro g2 cap2 w3 own3 hgrow3 hat3 hlt3
          have hb3 : Below W0.heap.size W0 w3 := (hbw.alloc hbw.size _).grown hgrow3 (by have := unhide HWZ; simp; omega) (fun q hq => ((unhide HV).lt q hq).1)
          have OW := hide own3
          clear own3 hgrow3 hat3 hlt3
          go_wp2
          go_roundw
          case rel => exact ⟨k + 1, by omega, by go_num, by rw [unhide HS2]; rfl, by rw [unhide HS2]; simpa [cellsT] using unhide OW, hb3⟩
          case measure => simp [intOf]; omega
        · have h4' : ¬ ((tx ++ xb).size : Int) ≤ 4096 := by omega
          have HS2 := hide (show inL (bodies (K.take (k + 1))) = (al, ByteArray.empty) by rw [unhide HST, inStep, if_neg (by simp), if_neg h4])
          generalize tx ++ xb = ty at *
          clear h4
          go_wp2
          go_roundw
          case rel => exact ⟨k + 1, by omega, by go_num, by rw [unhide HS2]; rfl, by rw [unhide HS2]; exact unhide HV, hbw⟩
          case measure => simp [intOf]; omega
    · have hke : k = K.length := by omega
      subst hke
      rw [List.take_length] at hv
      have htl := unhide HTO
      have hln : (inL (bodies K)).1.length ≤ K.length := by have := (unhide HBD K.length (Nat.le_refl _)).2; rwa [List.take_length] at this
      have HQD := hide (show rgotQ w go gn gc A ago ko K kc o told = rgotQ w go gn gc A ago ko K kc o told from rfl)
      have r2 : wr.heap[w.heap.size + 1]? = _ := (hbw.block _ (by have := unhide HS0; omega)).trans (unhide Q2)
      obtain ⟨⟨z0, z1, z2, z3, z4, z5⟩, f0, f1, f2, f3, f4, f5⟩ := six_cells r2
      have hB : w.heap.size ≤ w.heap.size + 1 := by omega
      obtain ⟨al, hal⟩ : ∃ al, al = (inL (bodies K)).1 := ⟨_, rfl⟩
      rw [← hal] at hv htl hln
      have HAL := hide hal
      clear hal
      rcases hv.2 with ⟨rfl, h0⟩ | ⟨g, cap, cur, rfl, _, hcur, hnc, hcm, _⟩
      · have ht0 : told = 0 := by omega
        subst ht0
        have hal0 : al = [] := List.length_eq_zero_iff.1 h0
        have HE := hide (show (inL (bodies K)).1 = [] by rw [← unhide HAL, hal0])
        clear hv htl hln hal0 h0 HAL
        go_wp2
        refine bodyPost_ret (v := .tuple #[rend go gn gc A ago ko K.length kc o 0, .slice none 0 0]) (by simp [results, Tryd.results16, go_sem, z0, z1, z2, z3, z4, z5]) rfl ⟨?_, none, 0, by rw [unhide HE]; rfl, .inl (by rw [unhide HE]; rfl), fun q off h => by cases h⟩
        · exact ((((((((unhide HB1).trans (hbw.mono (unhide HB1).size)).setCell (Nat.le_refl _) _).setCell hB _).setCell hB _).setCell hB _).setCell hB _).setCell hB _).setCell hB _
      · have hti : (told : Int) ≤ (al.length : Int) := by omega
        have hci : (al.length : Int) ≤ (cap : Int) := by omega
        have hcl := hv.cells (g := g) rfl
        have hgl := (hv.lt g rfl)
        by_cases hct : cap = told
        · have hnl : al.length = told := by omega
          have HE := hide (show (inL (bodies K)).1.drop told = [] ∧ (inL (bodies K)).1.length = al.length by rw [← unhide HAL]; exact ⟨List.drop_eq_nil_of_le (by omega), rfl⟩)
          have HCT := hide hct
          have HGL2 := hide hgl.1
          clear hv hcl hgl hct htl hln HAL
          subst hnl
          have hct2 := unhide HCT
          subst hct2
          go_wp2
          refine bodyPost_ret (v := .tuple #[rend go gn gc A ago ko K.length kc o (al.length : Int), .slice (some ⟨g, 0, none⟩) (al.length - al.length) 0]) (by simp [results, Tryd.results16, go_sem, z0, z1, z2, z3, z4, z5]) rfl ⟨?_, some ⟨g, 0, none⟩, 0, by rw [(unhide HE).2], .inl (unhide HE).1, fun q off h => by cases h; have := unhide HGL2; have := unhide HS0; omega⟩
          · exact ((((((((unhide HB1).trans (hbw.mono (unhide HB1).size)).setCell (Nat.le_refl _) _).setCell hB _).setCell hB _).setCell hB _).setCell hB _).setCell hB _).setCell hB _
        · have HE := hide (show (inL (bodies K)).1 = al from (unhide HAL).symm)
          have HCL := hide hcl; have HGL := hide hgl
          clear hv hcl hgl htl hln HAL
          go_wp2
          refine bodyPost_ret (v := .tuple #[rend go gn gc A ago ko K.length kc o (al.length : Int), .slice (some ⟨g, told, none⟩) (al.length - told) (cap - told)]) (by simp [results, Tryd.results16, go_sem, z0, z1, z2, z3, z4, z5]) rfl ⟨?_, some ⟨g, told, none⟩, cap - told, by rw [unhide HE], ?_, fun q off h => by cases h; have := (unhide HGL).1; have := unhide HS0; omega⟩
          · exact ((((((((unhide HB1).trans (hbw.mono (unhide HB1).size)).setCell (Nat.le_refl _) _).setCell hB _).setCell hB _).setCell hB _).setCell hB _).setCell hB _).setCell hB _
          · rw [unhide HE]
            have h1 : g ≠ w.heap.size := by have := (unhide HGL).1; have := unhide HS0; omega
            have h2 : g ≠ w.heap.size + 1 := by have := (unhide HGL).1; have := unhide HS0; omega
            refine .inr ⟨g, told, rfl, by simp; exact (unhide HGL).2, fun i s hs => ?_⟩
            rw [List.getElem?_drop] at hs
            have hc := unhide HCL (told + i) (.string s) (by simp [cellsT, hs])
            rw [Addr.add_lit, Nat.zero_add] at hc
            exact set_cellT h2 (set_cellT h2 (set_cellT h2 (set_cellT h2 (set_cellT h2 (set_cellT h2 (set_cellT h1 hc))))))
end Go.Proofs.YthchicolifkpiaaDoor
