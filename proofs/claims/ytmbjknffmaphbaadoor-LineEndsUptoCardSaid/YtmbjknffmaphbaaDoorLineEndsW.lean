/- The walk of the law on ends. -/
import Derived.Test.YtmbjknffmaphbaaDoorEndsI
import Derived.Test.YtmbjknffmaphbaaDoorShH
import Derived.Test.YtmbjknffmaphbaaDoorSameS
import Derived.Deep.CutRange
import Derived.Deep.CutBlock
namespace Go.Proofs.YtmbjknffmaphbaaDoor
open Go.RowKit
set_option linter.unusedVariables false



theorem giveE_zero {n : Nat} {s : ByteArray} (h : giveE n s = 0) : s.size ≤ 4096 := by
  unfold giveE at h
  split at h
  · cases h
  · omega
theorem take_any (w : World) (b base : Nat) (T : List ByteArray) (k : Nat) (turn pause aw : Int) (owed : Bool) (part : ByteArray) (lost : Bool) (got : List ByteArray) (tv pv gv : Value)
    (hP : PAt w b base T ((32 * k : Nat) : Int) turn pause aw owed part lost got tv pv gv) (ht : Tab w) (hbase : 0 < base) (hbw : base ≤ w.heap.size) (hT : ∀ x r, T = x :: r → x.size ≤ 4096 ∧ 32 * k ≤ x.size) :
    Calls Tryd.prog 22 #[.pointer (some ⟨b, 0, none⟩)] w (takeQ w b base T k turn pause aw owed part lost got tv pv gv) := by
  cases hd : dueP T pause with
  | false => exact take_idle w b base T k turn pause aw owed part lost got tv pv gv hP ht hbase hbw hd
  | true =>
    unfold dueP at hd
    rw [Bool.and_eq_true] at hd
    have hp : pause = 0 := of_decide_eq_true hd.2
    obtain ⟨x, r, rfl⟩ := List.exists_cons_of_ne_nil (of_decide_eq_true hd.1)
    subst hp
    obtain ⟨h1, h2⟩ := hT x r rfl
    exact take_due w b base x r k turn aw owed part lost got tv pv gv hP ht hbase hbw h1 h2
theorem parity_next (n : Nat) : 1 - ((n % 2 : Nat) : Int) = (((n + 1) % 2 : Nat) : Int) := by omega
theorem parity_range (n : Nat) : 0 ≤ ((n % 2 : Nat) : Int) ∧ ((n % 2 : Nat) : Int) ≤ 1 := by omega
theorem srow_one {w : World} {g : Nat} {s : ByteArray} (h : w.cell? ⟨g, 0, none⟩ = some (.string s)) : SRow w (some ⟨g, 0, none⟩) [s] :=
  .inr ⟨g, 0, rfl, World.block_lt_of_cell? w _ h, fun i x hx => by
    cases i with
    | zero => simp at hx; subst hx; exact h
    | succ i => simp at hx⟩
theorem SRow.keep {w w' : World} {ao : Option Addr} {l : List ByteArray} {S : Nat → Prop} (h : SRow w ao l) (hk : ∀ q, q < w.heap.size → ¬ S q → w'.heap[q]? = w.heap[q]?) (hz : w.heap.size ≤ w'.heap.size) (hn : ∀ q off, ao = some ⟨q, off, none⟩ → ¬ S q) : SRow w' ao l := by
  rcases h with h | ⟨q, off, e, hlt, hc⟩
  · exact .inl h
  · exact .inr ⟨q, off, e, by omega, fun i s hs => (World.cell?_of_block (a := ⟨q, off + i, none⟩) (hk q hlt (hn q off e))).trans (hc i s hs)⟩
theorem law_below {w wr W6 w7 : World} {b base : Nat} {T : List ByteArray} {arr turn pause aw : Int} {o : Bool} {part : ByteArray} {lost : Bool} {got : List ByteArray} {tv pv gv tv' pv' gv' : Value} (h : Below base w wr) (h6 : Below base wr W6) (hp : PAt W6 b base T arr turn pause aw o part lost got tv pv gv) (hs : StepP b W6 w7 tv pv gv tv' pv' gv') : Below base w w7 :=
  h.trans (h6.trans (hs.keep.below (fun q hq => (hp.ge q hq).1) (by have := hp.lo; have := hp.lt; omega)))
set_option maxRecDepth 100000 in
set_option maxHeartbeats 8000000 in
theorem walkLineEnds (l : List XHap) (ao : Option Addr) (cap : Nat) (w : World) (hr : RowHap w ao l) (hl : l.length ≤ 1048576) (ht : Tab w) :
    Calls Tryd.prog 5 #[.slice ao l.length cap] w fun e w' => e = .returned (.bool true) ∧ Below w.heap.size w w' := by
  have hw0 : 0 < w.heap.size := tab_blockE ht
  have N1 := hide (pnew_any w)
  have N2 := hide (fun wx => rnew_any wx)
  have hli : (l.length : Int) ≤ 1048576 := by omega
  have HT := hide ht; have HR := hide hr
  clear ht hr hl
  go_enter Tryd.func5, Tryd.ntmps5
  go_wp2_with fail
  refine (unhide N1).mono ?_
  rintro e w1 ⟨rfl, hb1, hP1⟩
  go_wp2_with fail
  refine (unhide N2 _).mono ?_
  rintro e w2 ⟨rfl, hb2⟩
  obtain ⟨W3, hW3⟩ : ∃ W3, W3 = w2.alloc (.cells #[.slice none 0 0, .int .i64 0, .int .i64 (-1), .slice none 0 0, .bool false, .int .i64 0] 39) := ⟨_, rfl⟩
  have hB3 : Below w1.heap.size w1 W3 := by rw [hW3]; exact hb2.alloc hb2.size _
  have hP3 := hP1.below hB3
  have hX3 := heap_alloc_new w2 (.cells #[.slice none 0 0, .int .i64 0, .int .i64 (-1), .slice none 0 0, .bool false, .int .i64 0] 39)
  rw [← hW3] at hX3
  have hrb : w.heap.size < w2.heap.size := by have := hP1.lt; have := hb2.size; omega
  have hE3 : EI W3 w.heap.size w2.heap.size w.heap.size 0 := EI.new hP3 hX3 (by omega) (by omega)
  have hw3 : Below w.heap.size w W3 := hb1.trans (hB3.mono hb1.size)
  have HW3 := hide hW3
  clear hW3 hP1 hP3 hX3 hB3 hb1 hb2
  go_upto_region 2 with fail
  rw [← unhide HW3]
  clear HW3
  generalize w2.heap.size = rb at *
  go_wp2
  go_loopw [22] (fun i wr => ∃ j : Nat, j ≤ l.length ∧ i = .int .i64 j ∧ EI wr w.heap.size rb w.heap.size j ∧ Below w.heap.size w wr) (fun i _ => l.length - (intOf i).toNat)
  case atStart => exact ⟨0, Nat.zero_le _, rfl, hE3, hw3⟩
  case round =>
    clear hE3 hw3
    obtain ⟨j, hj, rfl, hE, hbw⟩ := hrel
    by_cases hlt : j < l.length
    · obtain ⟨x, hx⟩ : ∃ x, l[j]? = some x := ⟨_, List.getElem?_eq_getElem hlt⟩
      obtain ⟨hrow, hok, _⟩ := unhide HR
      obtain ⟨hxa, hxs⟩ := hok x (List.mem_of_getElem? hx)
      rcases hrow with hn | ⟨hb0, off, rfl, hbl, hcl⟩
      · rw [hn] at hlt; simp at hlt
      obtain ⟨y0, y1⟩ := hcl j x hx
      have c0 := (hbw.cell (p := ⟨hb0, off + j * 2, none⟩) hbl).trans y0
      have c1 := (hbw.cell (p := ⟨hb0, off + j * 2 + 1, none⟩) hbl).trans y1
      obtain ⟨act, text⟩ := x
      simp only at *
      have hji : (j : Int) < (l.length : Int) := by omega
      obtain ⟨Wa, hWa⟩ : ∃ Wa, Wa = wr.alloc (.cells #[.int .i64 act, .string text] 42) := ⟨_, rfl⟩
      have hBa : Below wr.heap.size wr Wa := by rw [hWa]; exact (Below.refl _ _).alloc (Nat.le_refl _) _
      have hXa := heap_alloc_new wr (.cells #[.int .i64 act, .string text] 42)
      rw [← hWa] at hXa
      have hsa : Wa.heap.size = wr.heap.size + 1 := by rw [hWa]; simp
      have HWa := hide hWa; have HBa := hide hBa; have HXa := hide hXa; have HSa := hide hsa; have HE := hide hE; have HBW := hide hbw; have HXS := hide hxs
      clear hWa hBa hXa hsa hE hbw hxs y0 y1 hcl hok hx
      go_upto_block 2 with fail
      rw [← unhide HWa]
      go_cut [7, 22] from 22 to 97 (fun okv iv wx => okv = .bool true ∧ iv = .int .i64 (j : Int) ∧ EI wx w.heap.size rb w.heap.size (j + 1) ∧ Below w.heap.size w wx)
      case first =>
        clear c0 c1
        obtain ⟨z0, z1⟩ : Wa.cell? ⟨wr.heap.size, 0, none⟩ = some (.int .i64 act) ∧ Wa.cell? ⟨wr.heap.size, 1, none⟩ = some (.string text) := ⟨(cell_of_row _ _ 0 _ _ _ (unhide HXa)).trans rfl, (cell_of_row _ _ 1 _ _ _ (unhide HXa)).trans rfl⟩
        obtain ⟨G, T, A, k, ago, K, o, told, part, lost, got, tv, pv, gv, go, gc, ko, kc, hI⟩ := unhide HE
        have hra : rb < wr.heap.size := hI.rlt
        obtain ⟨⟨d0, d1, d2, d3, d4, d5⟩, k0, k1, k2, k3, k4, k5⟩ := six_cells (((unhide HBa).block rb hra).trans hI.r)
        have hgl := hI.good.gl
        have hkl := hI.good.kl
        have HI := hide hI
        by_cases ha0 : act = 0
        · subst ha0
          have N3 := hide (rgive_any G T A k go gc ago ko K.length kc o (told : Int) text Wa (hI.gs.srow.below (unhide HBa)) hI.gs.nil hI.good.gz (by omega) hI.good.out (unhide HXS))
          clear hI hgl hkl
          go_wp2_with fail
          refine (unhide N3).mono ?_
          rintro e w4 ⟨hb4, (⟨hne, rfl⟩ | ⟨heq, g, gcap, rfl, own4⟩)⟩
          · have HNE := hide hne
            clear hne
            have hbA : Below wr.heap.size wr w4 := (unhide HBa).trans (hb4.mono (unhide HBa).size)
            obtain ⟨W5, hW5⟩ : ∃ W5, W5 = w4.alloc (.cells #[.slice go G.length gc, .int .i64 (A : Int), .int .i64 ago, .slice ko K.length kc, .bool o, .int .i64 (told : Int)] 39) := ⟨_, rfl⟩
            have hB5 : Below wr.heap.size wr W5 := by rw [hW5]; exact hbA.alloc hbA.size _
            have hB45 : Below w4.heap.size w4 W5 := by rw [hW5]; exact (Below.refl _ _).alloc (Nat.le_refl _) _
            have q1 := (hB5.block rb hra).trans (unhide HI).r
            have q2 := heap_alloc_new w4 (.cells #[.slice go G.length gc, .int .i64 (A : Int), .int .i64 ago, .slice ko K.length kc, .bool o, .int .i64 (told : Int)] 39)
            rw [← hW5] at q2
            have q3 := (hB5.block wr.heap.size)
            have q4 : W5.heap[wr.heap.size]? = _ := ((hB45.block wr.heap.size (by have := hb4.size; have := unhide HSa; omega)).trans (hb4.block wr.heap.size (by have := unhide HSa; omega))).trans (unhide HXa)
            clear d0 d1 d2 d3 d4 d5 k0 k1 k2 k3 k4 k5 z0 z1 q3
            obtain ⟨⟨d0, d1, d2, d3, d4, d5⟩, k0, k1, k2, k3, k4, k5⟩ := six_cells q1
            obtain ⟨⟨x0, x1, x2, x3, x4, x5⟩, _⟩ := six_cells q2
            have HW5 := hide hW5
            obtain ⟨W6, hW6⟩ : ∃ W6, W6 = (((((W5.setCell ⟨rb, 0, none⟩ (.slice go G.length gc)).setCell ⟨rb, 1, none⟩ (.int .i64 (A : Int))).setCell ⟨rb, 2, none⟩ (.int .i64 ago)).setCell ⟨rb, 3, none⟩ (.slice ko K.length kc)).setCell ⟨rb, 4, none⟩ (.bool o)).setCell ⟨rb, 5, none⟩ (.int .i64 (told : Int)) := ⟨_, rfl⟩
            obtain ⟨s1, s2, s3, s4, s5, s6, s7⟩ := stored6 (unhide HI).p (unhide HI).r (unhide HI).nr (unhide HI).br hB5 (.slice go G.length gc) (.int .i64 (A : Int)) (.int .i64 ago) (.slice ko K.length kc) (.bool o) (.int .i64 (told : Int))
            have e6 : put6 W5 rb (.slice go G.length gc) (.int .i64 (A : Int)) (.int .i64 ago) (.slice ko K.length kc) (.bool o) (.int .i64 (told : Int)) = W6 := hW6.symm
            rw [e6] at s1 s2 s3 s4 s5 s6 s7
            have hqr : wr.heap.size ≠ rb := by omega
            have z1 : W6.cell? ⟨wr.heap.size, 1, none⟩ = some (.string text) := (cell_of_row _ _ 1 _ _ _ ((s3 _ hqr).trans q4)).trans rfl
            have HW6 := hide hW6; have HS1 := hide s1; have HS2 := hide s2; have HS3 := hide s3; have HS4 := hide s4; have HS5 := hide s5; have HS6 := hide s6; have HS7 := hide s7; have HB4 := hide hb4; have HBA := hide hbA; have HB45 := hide hB45
            clear hW5 hW6 e6 s1 s2 s3 s4 s5 s6 s7 q1 q2 q4 hb4 hbA hB5 hB45
            go_upto_region 14 with fail
            rw [← unhide HW5]
            go_upto_region 15 with fail
            rw [← unhide HW6]
            clear d0 d1 d2 d3 d4 d5 k0 k1 k2 k3 k4 k5 x0 x1 x2 x3 x4 x5 HW5 HW6
            have N4 := hide (pgive_any W6 w.heap.size w.heap.size T _ _ _ _ o part lost got tv pv gv text (unhide HS1) (by have := (unhide HS1).lt; omega) (unhide HXS))
            generalize giveE T.length text = ge at *
            go_wp2_with fail
            refine (unhide N4).mono ?_
            rintro e w7 ⟨rfl, tv', hP7, hS7⟩
            rw [if_neg (unhide HNE)] at hP7
            have HP7 := hide hP7; have HS8 := hide hS7
            clear hP7 hS7
            go_wp2_with fail
            go_meet
            exact ⟨by simp, rfl, einv_done (unhide HS2) (unhide HI).nr (unhide HI).br (unhide HS5 _ _ _ ((unhide HI).gs.below ((unhide HBA).trans ((unhide HB45).mono (unhide HBA).size)))) (unhide HS6 _ _ _ ((unhide HI).ks.below ((unhide HBA).trans ((unhide HB45).mono (unhide HBA).size)))) (unhide HP7) (unhide HS8) rfl rfl rfl rfl ((unhide HI).good.mono (by omega)), law_below (unhide HBW) (unhide HS7) (unhide HS1) (unhide HS8)⟩
          · have HEQ := hide heq; have HOW := hide own4
            clear heq own4
            have hbA : Below wr.heap.size wr w4 := (unhide HBa).trans (hb4.mono (unhide HBa).size)
            obtain ⟨W5, hW5⟩ : ∃ W5, W5 = w4.alloc (.cells #[.slice (some ⟨g, 0, none⟩) (G.length + 1) gcap, .int .i64 (A : Int), .int .i64 ago, .slice ko K.length kc, .bool o, .int .i64 (told : Int)] 39) := ⟨_, rfl⟩
            have hB5 : Below wr.heap.size wr W5 := by rw [hW5]; exact hbA.alloc hbA.size _
            have hB45 : Below w4.heap.size w4 W5 := by rw [hW5]; exact (Below.refl _ _).alloc (Nat.le_refl _) _
            have q1 := (hB5.block rb hra).trans (unhide HI).r
            have q2 := heap_alloc_new w4 (.cells #[.slice (some ⟨g, 0, none⟩) (G.length + 1) gcap, .int .i64 (A : Int), .int .i64 ago, .slice ko K.length kc, .bool o, .int .i64 (told : Int)] 39)
            rw [← hW5] at q2
            have q3 := (hB5.block wr.heap.size)
            have q4 : W5.heap[wr.heap.size]? = _ := ((hB45.block wr.heap.size (by have := hb4.size; have := unhide HSa; omega)).trans (hb4.block wr.heap.size (by have := unhide HSa; omega))).trans (unhide HXa)
            clear d0 d1 d2 d3 d4 d5 k0 k1 k2 k3 k4 k5 z0 z1 q3
            obtain ⟨⟨d0, d1, d2, d3, d4, d5⟩, k0, k1, k2, k3, k4, k5⟩ := six_cells q1
            obtain ⟨⟨x0, x1, x2, x3, x4, x5⟩, _⟩ := six_cells q2
            have HW5 := hide hW5
            obtain ⟨W6, hW6⟩ : ∃ W6, W6 = (((((W5.setCell ⟨rb, 0, none⟩ (.slice (some ⟨g, 0, none⟩) (G.length + 1) gcap)).setCell ⟨rb, 1, none⟩ (.int .i64 (A : Int))).setCell ⟨rb, 2, none⟩ (.int .i64 ago)).setCell ⟨rb, 3, none⟩ (.slice ko K.length kc)).setCell ⟨rb, 4, none⟩ (.bool o)).setCell ⟨rb, 5, none⟩ (.int .i64 (told : Int)) := ⟨_, rfl⟩
            obtain ⟨s1, s2, s3, s4, s5, s6, s7⟩ := stored6 (unhide HI).p (unhide HI).r (unhide HI).nr (unhide HI).br hB5 (.slice (some ⟨g, 0, none⟩) (G.length + 1) gcap) (.int .i64 (A : Int)) (.int .i64 ago) (.slice ko K.length kc) (.bool o) (.int .i64 (told : Int))
            have e6 : put6 W5 rb (.slice (some ⟨g, 0, none⟩) (G.length + 1) gcap) (.int .i64 (A : Int)) (.int .i64 ago) (.slice ko K.length kc) (.bool o) (.int .i64 (told : Int)) = W6 := hW6.symm
            rw [e6] at s1 s2 s3 s4 s5 s6 s7
            have hqr : wr.heap.size ≠ rb := by omega
            have z1 : W6.cell? ⟨wr.heap.size, 1, none⟩ = some (.string text) := (cell_of_row _ _ 1 _ _ _ ((s3 _ hqr).trans q4)).trans rfl
            have HW6 := hide hW6; have HS1 := hide s1; have HS2 := hide s2; have HS3 := hide s3; have HS4 := hide s4; have HS5 := hide s5; have HS6 := hide s6; have HS7 := hide s7; have HB4 := hide hb4; have HBA := hide hbA; have HB45 := hide hB45
            clear hW5 hW6 e6 s1 s2 s3 s4 s5 s6 s7 q1 q2 q4 hb4 hbA hB5 hB45
            go_upto_region 14 with fail
            rw [← unhide HW5]
            go_upto_region 15 with fail
            rw [← unhide HW6]
            clear d0 d1 d2 d3 d4 d5 k0 k1 k2 k3 k4 k5 x0 x1 x2 x3 x4 x5 HW5 HW6
            have N4 := hide (pgive_any W6 w.heap.size w.heap.size T _ _ _ _ o part lost got tv pv gv text (unhide HS1) (by have := (unhide HS1).lt; omega) (unhide HXS))
            rw [unhide HEQ] at N4
            rw [if_pos rfl] at N4
            go_wp2_with fail
            refine (unhide N4).mono ?_
            rintro e w7 ⟨rfl, tv', hP7, hS7⟩
            have hlen : (G ++ [text]).length = G.length + 1 := by simp
            have HP7 := hide hP7; have HS8 := hide hS7; have HLEN := hide hlen
            have HG6 : Hid (GRow W6 (some ⟨g, 0, none⟩) gcap (G ++ [text]) rb (InP w.heap.size tv pv gv)) := hide (unhide HS5 _ _ _ (GRow.below (GRow.of_own (base := Wa.heap.size) (by simp) (by rw [hlen]; exact unhide HOW) (by have := unhide HSa; omega) (fun q hq => by have := ((unhide HI).p.ge q hq).2; have := unhide HSa; omega)) (unhide HB45)))
            clear hP7 hS7 hlen
            go_wp2_with fail
            go_meet
            exact ⟨by simp, rfl, einv_done (by rw [unhide HLEN]; exact unhide HS2) (unhide HI).nr (unhide HI).br (unhide HG6) (unhide HS6 _ _ _ ((unhide HI).ks.below ((unhide HBA).trans ((unhide HB45).mono (unhide HBA).size)))) (unhide HP7) (unhide HS8) rfl rfl rfl rfl ((unhide HI).good.give (giveE_zero (unhide HEQ))), law_below (unhide HBW) (unhide HS7) (unhide HS1) (unhide HS8)⟩
        by_cases ha1 : act = 1
        · subst ha1
          have N3 := hide (rhear_any G T A k K go gc ago ko kc o (told : Int) text Wa (hI.gs.srow.below (unhide HBa)) (hI.ks.krow.below (unhide HBa)) hI.good.gz (by omega) (by omega) hI.good.out (unhide HXS))
          have HGL := hide hI.good.gotl
          clear hI hgl hkl ha0
          go_wp2_with fail
          refine (unhide N3).mono ?_
          rintro e w4 ⟨hb4, (⟨hne, rfl⟩ | ⟨heq, (⟨htk, rfl⟩ | ⟨htk, g, gcap, rfl, own4⟩)⟩)⟩
          · have HNE := hide hne
            clear hne
            have hbA : Below wr.heap.size wr w4 := (unhide HBa).trans (hb4.mono (unhide HBa).size)
            obtain ⟨W5, hW5⟩ : ∃ W5, W5 = w4.alloc (.cells #[.slice go G.length gc, .int .i64 (A : Int), .int .i64 ago, .slice ko K.length kc, .bool o, .int .i64 (told : Int)] 39) := ⟨_, rfl⟩
            have hB5 : Below wr.heap.size wr W5 := by rw [hW5]; exact hbA.alloc hbA.size _
            have hB45 : Below w4.heap.size w4 W5 := by rw [hW5]; exact (Below.refl _ _).alloc (Nat.le_refl _) _
            have q1 := (hB5.block rb hra).trans (unhide HI).r
            have q2 := heap_alloc_new w4 (.cells #[.slice go G.length gc, .int .i64 (A : Int), .int .i64 ago, .slice ko K.length kc, .bool o, .int .i64 (told : Int)] 39)
            rw [← hW5] at q2
            have q3 := (hB5.block wr.heap.size)
            have q4 : W5.heap[wr.heap.size]? = _ := ((hB45.block wr.heap.size (by have := hb4.size; have := unhide HSa; omega)).trans (hb4.block wr.heap.size (by have := unhide HSa; omega))).trans (unhide HXa)
            clear d0 d1 d2 d3 d4 d5 k0 k1 k2 k3 k4 k5 z0 z1 q3
            obtain ⟨⟨d0, d1, d2, d3, d4, d5⟩, k0, k1, k2, k3, k4, k5⟩ := six_cells q1
            obtain ⟨⟨x0, x1, x2, x3, x4, x5⟩, _⟩ := six_cells q2
            have HW5 := hide hW5
            obtain ⟨W6, hW6⟩ : ∃ W6, W6 = (((((W5.setCell ⟨rb, 0, none⟩ (.slice go G.length gc)).setCell ⟨rb, 1, none⟩ (.int .i64 (A : Int))).setCell ⟨rb, 2, none⟩ (.int .i64 ago)).setCell ⟨rb, 3, none⟩ (.slice ko K.length kc)).setCell ⟨rb, 4, none⟩ (.bool o)).setCell ⟨rb, 5, none⟩ (.int .i64 (told : Int)) := ⟨_, rfl⟩
            obtain ⟨s1, s2, s3, s4, s5, s6, s7⟩ := stored6 (unhide HI).p (unhide HI).r (unhide HI).nr (unhide HI).br hB5 (.slice go G.length gc) (.int .i64 (A : Int)) (.int .i64 ago) (.slice ko K.length kc) (.bool o) (.int .i64 (told : Int))
            have e6 : put6 W5 rb (.slice go G.length gc) (.int .i64 (A : Int)) (.int .i64 ago) (.slice ko K.length kc) (.bool o) (.int .i64 (told : Int)) = W6 := hW6.symm
            rw [e6] at s1 s2 s3 s4 s5 s6 s7
            have hqr : wr.heap.size ≠ rb := by omega
            have z1 : W6.cell? ⟨wr.heap.size, 1, none⟩ = some (.string text) := (cell_of_row _ _ 1 _ _ _ ((s3 _ hqr).trans q4)).trans rfl
            have HW6 := hide hW6; have HS1 := hide s1; have HS2 := hide s2; have HS3 := hide s3; have HS4 := hide s4; have HS5 := hide s5; have HS6 := hide s6; have HS7 := hide s7; have HB4 := hide hb4; have HBA := hide hbA; have HB45 := hide hB45
            clear hW5 hW6 e6 s1 s2 s3 s4 s5 s6 s7 q1 q2 q4 hb4 hbA hB5 hB45
            go_upto_region 18 with fail
            rw [← unhide HW5]
            go_upto_region 19 with fail
            rw [← unhide HW6]
            clear d0 d1 d2 d3 d4 d5 k0 k1 k2 k3 k4 k5 x0 x1 x2 x3 x4 x5 HW5 HW6
            have N4 := hide (hear_bad W6 w.heap.size w.heap.size T _ _ _ _ o part lost got tv pv gv text (unhide HS1) ((unhide HT).below ((unhide HBW).trans (unhide HS7)) hw0) (unhide HXS) (unhide HNE))
            generalize unfE text = ge at *
            go_wp2_with fail
            refine (unhide N4).mono ?_
            rintro e w7 ⟨rfl, tv', pv', gv', hP7, hS7⟩
            have HP7 := hide hP7; have HS8 := hide hS7
            clear hP7 hS7
            go_wp2_with fail
            go_meet
            exact ⟨by simp, rfl, einv_done (unhide HS2) (unhide HI).nr (unhide HI).br (unhide HS5 _ _ _ ((unhide HI).gs.below ((unhide HBA).trans ((unhide HB45).mono (unhide HBA).size)))) (unhide HS6 _ _ _ ((unhide HI).ks.below ((unhide HBA).trans ((unhide HB45).mono (unhide HBA).size)))) (unhide HP7) (unhide HS8) rfl rfl rfl rfl ((unhide HI).good.mono (by omega)), law_below (unhide HBW) (unhide HS7) (unhide HS1) (unhide HS8)⟩
          · have HTK := hide (show (uH text && decide (uT text = ((K.length % 2 : Nat) : Int))) = false from htk); have HEQ := hide heq
            clear htk heq
            have hbA : Below wr.heap.size wr w4 := (unhide HBa).trans (hb4.mono (unhide HBa).size)
            obtain ⟨W5, hW5⟩ : ∃ W5, W5 = w4.alloc (.cells #[.slice go G.length gc, .int .i64 ((hearA G A text : Nat) : Int), .int .i64 (hearG G A ago text), .slice ko K.length kc, .bool (o || uH text), .int .i64 (told : Int)] 39) := ⟨_, rfl⟩
            have hB5 : Below wr.heap.size wr W5 := by rw [hW5]; exact hbA.alloc hbA.size _
            have hB45 : Below w4.heap.size w4 W5 := by rw [hW5]; exact (Below.refl _ _).alloc (Nat.le_refl _) _
            have q1 := (hB5.block rb hra).trans (unhide HI).r
            have q2 := heap_alloc_new w4 (.cells #[.slice go G.length gc, .int .i64 ((hearA G A text : Nat) : Int), .int .i64 (hearG G A ago text), .slice ko K.length kc, .bool (o || uH text), .int .i64 (told : Int)] 39)
            rw [← hW5] at q2
            have q3 := (hB5.block wr.heap.size)
            have q4 : W5.heap[wr.heap.size]? = _ := ((hB45.block wr.heap.size (by have := hb4.size; have := unhide HSa; omega)).trans (hb4.block wr.heap.size (by have := unhide HSa; omega))).trans (unhide HXa)
            clear d0 d1 d2 d3 d4 d5 k0 k1 k2 k3 k4 k5 z0 z1 q3
            obtain ⟨⟨d0, d1, d2, d3, d4, d5⟩, k0, k1, k2, k3, k4, k5⟩ := six_cells q1
            obtain ⟨⟨x0, x1, x2, x3, x4, x5⟩, _⟩ := six_cells q2
            have HW5 := hide hW5
            obtain ⟨W6, hW6⟩ : ∃ W6, W6 = (((((W5.setCell ⟨rb, 0, none⟩ (.slice go G.length gc)).setCell ⟨rb, 1, none⟩ (.int .i64 ((hearA G A text : Nat) : Int))).setCell ⟨rb, 2, none⟩ (.int .i64 (hearG G A ago text))).setCell ⟨rb, 3, none⟩ (.slice ko K.length kc)).setCell ⟨rb, 4, none⟩ (.bool (o || uH text))).setCell ⟨rb, 5, none⟩ (.int .i64 (told : Int)) := ⟨_, rfl⟩
            obtain ⟨s1, s2, s3, s4, s5, s6, s7⟩ := stored6 (unhide HI).p (unhide HI).r (unhide HI).nr (unhide HI).br hB5 (.slice go G.length gc) (.int .i64 ((hearA G A text : Nat) : Int)) (.int .i64 (hearG G A ago text)) (.slice ko K.length kc) (.bool (o || uH text)) (.int .i64 (told : Int))
            have e6 : put6 W5 rb (.slice go G.length gc) (.int .i64 ((hearA G A text : Nat) : Int)) (.int .i64 (hearG G A ago text)) (.slice ko K.length kc) (.bool (o || uH text)) (.int .i64 (told : Int)) = W6 := hW6.symm
            rw [e6] at s1 s2 s3 s4 s5 s6 s7
            have hqr : wr.heap.size ≠ rb := by omega
            have z1 : W6.cell? ⟨wr.heap.size, 1, none⟩ = some (.string text) := (cell_of_row _ _ 1 _ _ _ ((s3 _ hqr).trans q4)).trans rfl
            have HW6 := hide hW6; have HS1 := hide s1; have HS2 := hide s2; have HS3 := hide s3; have HS4 := hide s4; have HS5 := hide s5; have HS6 := hide s6; have HS7 := hide s7; have HB4 := hide hb4; have HBA := hide hbA; have HB45 := hide hB45
            clear hW5 hW6 e6 s1 s2 s3 s4 s5 s6 s7 q1 q2 q4 hb4 hbA hB5 hB45
            go_upto_region 18 with fail
            rw [← unhide HW5]
            go_upto_region 19 with fail
            rw [← unhide HW6]
            clear d0 d1 d2 d3 d4 d5 k0 k1 k2 k3 k4 k5 x0 x1 x2 x3 x4 x5 HW5 HW6
            have n4 := hear_good W6 w.heap.size w.heap.size T k _ _ _ o part lost got tv pv gv text (unhide HS1) ((unhide HT).below ((unhide HBW).trans (unhide HS7)) hw0) (unhide HXS) (unhide HEQ) (by have := (unhide HS1).lt; omega) (unhide HI).good.tz (parity_range A).1 (parity_range A).2 (parity_range K.length).1 (parity_range K.length).2 (unhide HI).good.pz (by have := unhide HGL; omega)
            obtain ⟨q1, q2, q3⟩ := (unhide HI).good.hit text
            rw [hit_same (unhide HI).good text, unhide HTK, q2, q3] at n4
            simp only [Bool.false_eq_true, if_false] at n4
            have N4 := hide n4; have HQ1 := hide q1
            clear n4 q1 q2 q3
            go_wp2_with fail
            refine (unhide N4).mono ?_
            rintro e w7 ⟨rfl, tv', pv', gv', hP7, hS7⟩
            have HP7 := hide hP7; have HS8 := hide hS7
            clear hP7 hS7
            go_wp2_with fail
            go_meet
            exact ⟨by simp, rfl, einv_done (unhide HS2) (unhide HI).nr (unhide HI).br (unhide HS5 _ _ _ ((unhide HI).gs.below ((unhide HBA).trans ((unhide HB45).mono (unhide HBA).size)))) (unhide HS6 _ _ _ ((unhide HI).ks.below ((unhide HBA).trans ((unhide HB45).mono (unhide HBA).size)))) (unhide HP7) (unhide HS8) rfl rfl rfl rfl ((unhide HQ1).mono (by omega)), law_below (unhide HBW) (unhide HS7) (unhide HS1) (unhide HS8)⟩
          · have HTK := hide (show (uH text && decide (uT text = ((K.length % 2 : Nat) : Int))) = true from htk); have HEQ := hide heq; have HOW := hide own4
            clear htk heq own4
            have hbA : Below wr.heap.size wr w4 := (unhide HBa).trans (hb4.mono (unhide HBa).size)
            obtain ⟨W5, hW5⟩ : ∃ W5, W5 = w4.alloc (.cells #[.slice go G.length gc, .int .i64 ((hearA G A text : Nat) : Int), .int .i64 (hearG G A ago text), .slice (some ⟨g, 0, none⟩) (K.length + 1) gcap, .bool (o || uH text), .int .i64 (told : Int)] 39) := ⟨_, rfl⟩
            have hB5 : Below wr.heap.size wr W5 := by rw [hW5]; exact hbA.alloc hbA.size _
            have hB45 : Below w4.heap.size w4 W5 := by rw [hW5]; exact (Below.refl _ _).alloc (Nat.le_refl _) _
            have q1 := (hB5.block rb hra).trans (unhide HI).r
            have q2 := heap_alloc_new w4 (.cells #[.slice go G.length gc, .int .i64 ((hearA G A text : Nat) : Int), .int .i64 (hearG G A ago text), .slice (some ⟨g, 0, none⟩) (K.length + 1) gcap, .bool (o || uH text), .int .i64 (told : Int)] 39)
            rw [← hW5] at q2
            have q3 := (hB5.block wr.heap.size)
            have q4 : W5.heap[wr.heap.size]? = _ := ((hB45.block wr.heap.size (by have := hb4.size; have := unhide HSa; omega)).trans (hb4.block wr.heap.size (by have := unhide HSa; omega))).trans (unhide HXa)
            clear d0 d1 d2 d3 d4 d5 k0 k1 k2 k3 k4 k5 z0 z1 q3
            obtain ⟨⟨d0, d1, d2, d3, d4, d5⟩, k0, k1, k2, k3, k4, k5⟩ := six_cells q1
            obtain ⟨⟨x0, x1, x2, x3, x4, x5⟩, _⟩ := six_cells q2
            have HW5 := hide hW5
            obtain ⟨W6, hW6⟩ : ∃ W6, W6 = (((((W5.setCell ⟨rb, 0, none⟩ (.slice go G.length gc)).setCell ⟨rb, 1, none⟩ (.int .i64 ((hearA G A text : Nat) : Int))).setCell ⟨rb, 2, none⟩ (.int .i64 (hearG G A ago text))).setCell ⟨rb, 3, none⟩ (.slice (some ⟨g, 0, none⟩) (K.length + 1) gcap)).setCell ⟨rb, 4, none⟩ (.bool (o || uH text))).setCell ⟨rb, 5, none⟩ (.int .i64 (told : Int)) := ⟨_, rfl⟩
            obtain ⟨s1, s2, s3, s4, s5, s6, s7⟩ := stored6 (unhide HI).p (unhide HI).r (unhide HI).nr (unhide HI).br hB5 (.slice go G.length gc) (.int .i64 ((hearA G A text : Nat) : Int)) (.int .i64 (hearG G A ago text)) (.slice (some ⟨g, 0, none⟩) (K.length + 1) gcap) (.bool (o || uH text)) (.int .i64 (told : Int))
            have e6 : put6 W5 rb (.slice go G.length gc) (.int .i64 ((hearA G A text : Nat) : Int)) (.int .i64 (hearG G A ago text)) (.slice (some ⟨g, 0, none⟩) (K.length + 1) gcap) (.bool (o || uH text)) (.int .i64 (told : Int)) = W6 := hW6.symm
            rw [e6] at s1 s2 s3 s4 s5 s6 s7
            have hqr : wr.heap.size ≠ rb := by omega
            have z1 : W6.cell? ⟨wr.heap.size, 1, none⟩ = some (.string text) := (cell_of_row _ _ 1 _ _ _ ((s3 _ hqr).trans q4)).trans rfl
            have HW6 := hide hW6; have HS1 := hide s1; have HS2 := hide s2; have HS3 := hide s3; have HS4 := hide s4; have HS5 := hide s5; have HS6 := hide s6; have HS7 := hide s7; have HB4 := hide hb4; have HBA := hide hbA; have HB45 := hide hB45
            clear hW5 hW6 e6 s1 s2 s3 s4 s5 s6 s7 q1 q2 q4 hb4 hbA hB5 hB45
            go_upto_region 18 with fail
            rw [← unhide HW5]
            go_upto_region 19 with fail
            rw [← unhide HW6]
            clear d0 d1 d2 d3 d4 d5 k0 k1 k2 k3 k4 k5 x0 x1 x2 x3 x4 x5 HW5 HW6
            have n4 := hear_good W6 w.heap.size w.heap.size T k _ _ _ o part lost got tv pv gv text (unhide HS1) ((unhide HT).below ((unhide HBW).trans (unhide HS7)) hw0) (unhide HXS) (unhide HEQ) (by have := (unhide HS1).lt; omega) (unhide HI).good.tz (parity_range A).1 (parity_range A).2 (parity_range K.length).1 (parity_range K.length).2 (unhide HI).good.pz (by have := unhide HGL; omega)
            obtain ⟨q1, q2, q3⟩ := (unhide HI).good.hit text
            rw [hit_same (unhide HI).good text, unhide HTK, q2, q3] at n4
            simp only [if_true] at n4
            have N4 := hide n4; have HQ1 := hide q1
            clear n4 q1 q2 q3
            go_wp2_with fail
            refine (unhide N4).mono ?_
            rintro e w7 ⟨rfl, tv', pv', gv', hP7, hS7⟩
            have hlen : (K ++ [(⟨uT text, uN text, uM text, uH text, uB text⟩ : TB)]).length = K.length + 1 := by simp
            have HP7 := hide hP7; have HS8 := hide hS7; have HLEN := hide hlen
            have HK6 : Hid (KRowX W6 (some ⟨g, 0, none⟩) gcap (K ++ [⟨uT text, uN text, uM text, uH text, uB text⟩]) rb (InP w.heap.size tv pv gv)) := hide (unhide HS6 _ _ _ (KRowX.below (KRowX.of_own (base := Wa.heap.size) (by simp) (by rw [hlen]; exact unhide HOW) (by have := unhide HSa; omega) (fun q hq => by have := ((unhide HI).p.ge q hq).2; have := unhide HSa; omega)) (unhide HB45)))
            clear hP7 hS7 hlen
            go_wp2_with fail
            go_meet
            exact ⟨by simp, rfl, einv_done (by rw [unhide HLEN]; exact unhide HS2) (unhide HI).nr (unhide HI).br (unhide HS5 _ _ _ ((unhide HI).gs.below ((unhide HBA).trans ((unhide HB45).mono (unhide HBA).size)))) (unhide HK6) (unhide HP7) (unhide HS8) rfl rfl rfl (by rw [unhide HLEN]; exact parity_next _) ((unhide HQ1).more text), law_below (unhide HBW) (unhide HS7) (unhide HS1) (unhide HS8)⟩
        by_cases ha2 : act = 2
        · subst ha2
          have N4 := hide (ptick_any Wa w.heap.size w.heap.size T _ _ _ _ o part lost got tv pv gv (hI.p.below (unhide HBa)) (pause_range ago).1 (pause_range ago).2)
          clear hI ha0 ha1
          go_wp2_with fail
          refine (unhide N4).mono ?_
          rintro e w4 ⟨rfl, hP4, hS4⟩
          have nra : ¬ InP w.heap.size tv pv gv rb := (unhide HI).nr
          have r4 := (hS4.keep.block rb (by have := unhide HSa; omega) nra).trans (((unhide HBa).block rb hra).trans (unhide HI).r)
          have g4 := ((unhide HI).gs.below (unhide HBa)).step hS4.keep hS4.new
          have l4 := ((unhide HI).ks.below (unhide HBa)).step hS4.keep hS4.new
          have hb4 : Below w.heap.size wr w4 := ((unhide HBa).mono (by have := (unhide HI).p.lo; have := (unhide HI).p.lt; omega)).trans (hS4.keep.below (fun q hq => ((unhide HI).p.ge q hq).1) (by have := unhide HSa; have := (unhide HI).p.lo; have := (unhide HI).p.lt; omega))
          clear d0 d1 d2 d3 d4 d5 k0 k1 k2 k3 k4 k5 z0 z1
          obtain ⟨⟨d0, d1, d2, d3, d4, d5⟩, k0, k1, k2, k3, k4, k5⟩ := six_cells r4
          have N5 := hide (rtick_any G T A k go gc ago ko K.length kc o (told : Int) w4 g4.srow (unhide HI).good.gz (by omega) (unhide HI).good.out (unhide HI).good.lo (by have := (unhide HI).good.hi; omega))
          have HP4 := hide hP4; have HR4 := hide r4; have HG4 := hide g4; have HL4 := hide l4; have HB4 := hide hb4
          obtain ⟨q1, q2⟩ := (unhide HI).good.tick
          have HQ1 := hide q1; have HQ2 := hide q2
          clear hP4 hS4 r4 g4 l4 hb4 q1 q2
          generalize hta : tickN T.length ago = ta at *
          have HTA := hide hta
          clear hta
          go_wp2_with fail
          refine (unhide N5).mono ?_
          rintro e w5 ⟨rfl, hb5⟩
          have r5 := (hb5.block rb (by have := World.block_lt_of_cell? w4 ⟨rb, 0, none⟩ d0; exact this)).trans (unhide HR4)
          clear d0 d1 d2 d3 d4 d5 k0 k1 k2 k3 k4 k5
          obtain ⟨⟨d0, d1, d2, d3, d4, d5⟩, k0, k1, k2, k3, k4, k5⟩ := six_cells r5
          obtain ⟨s1, s2, s3, s4, s5, s6, s7⟩ := stored6 (unhide HP4) (unhide HR4) (unhide HI).nr (unhide HI).br hb5 (.slice go G.length gc) (.int .i64 (A : Int)) (.int .i64 ta) (.slice ko K.length kc) (.bool o) (.int .i64 (told : Int))
          have G5 := hide (s5 _ _ _ ((unhide HG4).below hb5)); have L5 := hide (s6 _ _ _ ((unhide HL4).below hb5)); have HS1 := hide s1; have HS2 := hide s2; have HS7 := hide s7
          clear s1 s2 s3 s4 s5 s6 s7 hb5 r5
          go_wp2_with fail
          go_meet
          exact ⟨rfl, rfl, einv_done (unhide HS2) (unhide HI).nr (unhide HI).br (unhide G5) (unhide L5) (unhide HS1) ⟨KeepP.refl _ _, inp_refl⟩ rfl rfl (unhide HQ2) rfl (unhide HQ1), (unhide HBW).trans ((unhide HB4).trans (unhide HS7))⟩
        by_cases ha3 : act = 3
        · subst ha3
          have N3 := hide (rtake_any G T A k go gc ago ko K.length kc o (told : Int) Wa (hI.gs.srow.below (unhide HBa)) hI.good.gz (by omega) (by omega) hI.good.out)
          obtain ⟨ag2, hag2⟩ : ∃ x, x = if dueB T ago then 0 else ago := ⟨_, rfl⟩
          have HAG := hide hag2
          obtain ⟨tq1, tq2⟩ := hI.good.take
          rw [← hag2] at tq1 tq2
          have HTQ1 := hide tq1; have HTQ2 := hide tq2
          clear hI hgl hkl ha0 ha1 ha2 hag2 tq1 tq2
          go_wp2_with fail
          refine (unhide N3).mono ?_
          rintro e w4 ⟨hb4, (⟨hd, ho, rfl⟩ | ⟨hd, g, he, hg1, hg2, hg3⟩)⟩
          · have HD := hide hd; have HO := hide ho
            clear hd ho
            have hbA : Below wr.heap.size wr w4 := (unhide HBa).trans (hb4.mono (unhide HBa).size)
            obtain ⟨W5, hW5⟩ : ∃ W5, W5 = w4.alloc (.cells #[.slice go G.length gc, .int .i64 (A : Int), .int .i64 ago, .slice ko K.length kc, .bool o, .int .i64 (told : Int)] 39) := ⟨_, rfl⟩
            have hB5 : Below wr.heap.size wr W5 := by rw [hW5]; exact hbA.alloc hbA.size _
            have hB45 : Below w4.heap.size w4 W5 := by rw [hW5]; exact (Below.refl _ _).alloc (Nat.le_refl _) _
            have q1 := (hB5.block rb hra).trans (unhide HI).r
            have q2 := heap_alloc_new w4 (.cells #[.slice go G.length gc, .int .i64 (A : Int), .int .i64 ago, .slice ko K.length kc, .bool o, .int .i64 (told : Int)] 39)
            rw [← hW5] at q2
            have q3 := (hB5.block wr.heap.size)
            have q4 : W5.heap[wr.heap.size]? = _ := ((hB45.block wr.heap.size (by have := hb4.size; have := unhide HSa; omega)).trans (hb4.block wr.heap.size (by have := unhide HSa; omega))).trans (unhide HXa)
            clear d0 d1 d2 d3 d4 d5 k0 k1 k2 k3 k4 k5 z0 z1 q3
            obtain ⟨⟨d0, d1, d2, d3, d4, d5⟩, k0, k1, k2, k3, k4, k5⟩ := six_cells q1
            obtain ⟨⟨x0, x1, x2, x3, x4, x5⟩, _⟩ := six_cells q2
            have HW5 := hide hW5
            obtain ⟨W6, hW6⟩ : ∃ W6, W6 = (((((W5.setCell ⟨rb, 0, none⟩ (.slice go G.length gc)).setCell ⟨rb, 1, none⟩ (.int .i64 (A : Int))).setCell ⟨rb, 2, none⟩ (.int .i64 ago)).setCell ⟨rb, 3, none⟩ (.slice ko K.length kc)).setCell ⟨rb, 4, none⟩ (.bool o)).setCell ⟨rb, 5, none⟩ (.int .i64 (told : Int)) := ⟨_, rfl⟩
            obtain ⟨s1, s2, s3, s4, s5, s6, s7⟩ := stored6 (unhide HI).p (unhide HI).r (unhide HI).nr (unhide HI).br hB5 (.slice go G.length gc) (.int .i64 (A : Int)) (.int .i64 ago) (.slice ko K.length kc) (.bool o) (.int .i64 (told : Int))
            have e6 : put6 W5 rb (.slice go G.length gc) (.int .i64 (A : Int)) (.int .i64 ago) (.slice ko K.length kc) (.bool o) (.int .i64 (told : Int)) = W6 := hW6.symm
            rw [e6] at s1 s2 s3 s4 s5 s6 s7
            have hqr : wr.heap.size ≠ rb := by omega
            have z1 : W6.cell? ⟨wr.heap.size, 1, none⟩ = some (.string text) := (cell_of_row _ _ 1 _ _ _ ((s3 _ hqr).trans q4)).trans rfl
            have HW6 := hide hW6; have HS1 := hide s1; have HS2 := hide s2; have HS3 := hide s3; have HS4 := hide s4; have HS5 := hide s5; have HS6 := hide s6; have HS7 := hide s7; have HB4 := hide hb4; have HBA := hide hbA; have HB45 := hide hB45
            clear hW5 hW6 e6 s1 s2 s3 s4 s5 s6 s7 q1 q2 q4 hb4 hbA hB5 hB45
            go_upto_region 25 with fail
            rw [← unhide HW5]
            go_upto_region 26 with fail
            rw [← unhide HW6]
            clear d0 d1 d2 d3 d4 d5 k0 k1 k2 k3 k4 k5 x0 x1 x2 x3 x4 x5 HW5 HW6
            have N4 := hide (take_any W6 w.heap.size w.heap.size T k _ _ _ o part lost got tv pv gv (unhide HS1) ((unhide HT).below ((unhide HBW).trans (unhide HS7)) hw0) hw0 (by have := (unhide HS1).lt; omega) (unhide HI).good.tz)
            have N5 := hide (fun wx => sameS_any [] [] none none 0 0 wx (.inl rfl) (.inl rfl) (by simp) (by simp))
            go_wp2_with fail
            refine (unhide N4).mono ?_
            rintro e w7 (⟨_, _, rfl, hP7, hS7⟩ | ⟨hx, _⟩)
            · have HP7 := hide hP7; have HS8 := hide hS7
              clear hP7 hS7
              go_wp2_with fail
              refine (unhide N5 _).mono ?_
              rintro e w8 ⟨rfl, hb8⟩
              have HB8 := hide hb8
              clear hb8
              go_wp2_with fail
              go_meet
              exact ⟨by simp, rfl, einv_done (unhide HS2) (unhide HI).nr (unhide HI).br (unhide HS5 _ _ _ ((unhide HI).gs.below ((unhide HBA).trans ((unhide HB45).mono (unhide HBA).size)))) (unhide HS6 _ _ _ ((unhide HI).ks.below ((unhide HBA).trans ((unhide HB45).mono (unhide HBA).size)))) ((unhide HP7).below (unhide HB8)) ((unhide HS8).trans (StepP.of_below (unhide HB8))) rfl rfl rfl rfl ((unhide HI).good.mono (by omega)), law_below (unhide HBW) (unhide HS7) (unhide HS1) ((unhide HS8).trans (StepP.of_below (unhide HB8)))⟩
            · exfalso
              rw [due_same, unhide HD, unhide HO] at hx
              simp at hx
          · rw [← unhide HAG] at he
            subst he
            have HD := hide hd; have HG1 := hide hg1; have HG2 := hide hg2; have HG3 := hide hg3
            clear hd hg1 hg2 hg3
            have hbA : Below wr.heap.size wr w4 := (unhide HBa).trans (hb4.mono (unhide HBa).size)
            obtain ⟨W5, hW5⟩ : ∃ W5, W5 = w4.alloc (.cells #[.slice go G.length gc, .int .i64 (A : Int), .int .i64 ag2, .slice ko K.length kc, .bool false, .int .i64 (told : Int)] 39) := ⟨_, rfl⟩
            have hB5 : Below wr.heap.size wr W5 := by rw [hW5]; exact hbA.alloc hbA.size _
            have hB45 : Below w4.heap.size w4 W5 := by rw [hW5]; exact (Below.refl _ _).alloc (Nat.le_refl _) _
            have q1 := (hB5.block rb hra).trans (unhide HI).r
            have q2 := heap_alloc_new w4 (.cells #[.slice go G.length gc, .int .i64 (A : Int), .int .i64 ag2, .slice ko K.length kc, .bool false, .int .i64 (told : Int)] 39)
            rw [← hW5] at q2
            have q3 := (hB5.block wr.heap.size)
            have q4 : W5.heap[wr.heap.size]? = _ := ((hB45.block wr.heap.size (by have := hb4.size; have := unhide HSa; omega)).trans (hb4.block wr.heap.size (by have := unhide HSa; omega))).trans (unhide HXa)
            clear d0 d1 d2 d3 d4 d5 k0 k1 k2 k3 k4 k5 z0 z1 q3
            obtain ⟨⟨d0, d1, d2, d3, d4, d5⟩, k0, k1, k2, k3, k4, k5⟩ := six_cells q1
            obtain ⟨⟨x0, x1, x2, x3, x4, x5⟩, _⟩ := six_cells q2
            have HW5 := hide hW5
            obtain ⟨W6, hW6⟩ : ∃ W6, W6 = (((((W5.setCell ⟨rb, 0, none⟩ (.slice go G.length gc)).setCell ⟨rb, 1, none⟩ (.int .i64 (A : Int))).setCell ⟨rb, 2, none⟩ (.int .i64 ag2)).setCell ⟨rb, 3, none⟩ (.slice ko K.length kc)).setCell ⟨rb, 4, none⟩ (.bool false)).setCell ⟨rb, 5, none⟩ (.int .i64 (told : Int)) := ⟨_, rfl⟩
            obtain ⟨s1, s2, s3, s4, s5, s6, s7⟩ := stored6 (unhide HI).p (unhide HI).r (unhide HI).nr (unhide HI).br hB5 (.slice go G.length gc) (.int .i64 (A : Int)) (.int .i64 ag2) (.slice ko K.length kc) (.bool false) (.int .i64 (told : Int))
            have e6 : put6 W5 rb (.slice go G.length gc) (.int .i64 (A : Int)) (.int .i64 ag2) (.slice ko K.length kc) (.bool false) (.int .i64 (told : Int)) = W6 := hW6.symm
            rw [e6] at s1 s2 s3 s4 s5 s6 s7
            have hqr : wr.heap.size ≠ rb := by omega
            have z1 : W6.cell? ⟨wr.heap.size, 1, none⟩ = some (.string text) := (cell_of_row _ _ 1 _ _ _ ((s3 _ hqr).trans q4)).trans rfl
            have HW6 := hide hW6; have HS1 := hide s1; have HS2 := hide s2; have HS3 := hide s3; have HS4 := hide s4; have HS5 := hide s5; have HS6 := hide s6; have HS7 := hide s7; have HB4 := hide hb4; have HBA := hide hbA; have HB45 := hide hB45
            clear hW5 hW6 e6 s1 s2 s3 s4 s5 s6 s7 q1 q2 q4 hb4 hbA hB5 hB45
            go_upto_region 25 with fail
            rw [← unhide HW5]
            go_upto_region 26 with fail
            rw [← unhide HW6]
            clear d0 d1 d2 d3 d4 d5 k0 k1 k2 k3 k4 k5 x0 x1 x2 x3 x4 x5 HW5 HW6
            have N4 := hide (take_any W6 w.heap.size w.heap.size T k _ _ _ o part lost got tv pv gv (unhide HS1) ((unhide HT).below ((unhide HBW).trans (unhide HS7)) hw0) hw0 (by have := (unhide HS1).lt; omega) (unhide HI).good.tz)
            have hg6 : W6.cell? ⟨g, 0, none⟩ = some (.string (sentT T A k K.length (dueB T ago))) := (World.cell?_of_block (a := ⟨g, 0, none⟩) ((unhide HS3 g (by have := unhide HG2; have := unhide HSa; omega)).trans ((unhide HB45).block g (unhide HG1)))).trans (unhide HG3)
            have HG6 := hide hg6
            clear hg6
            generalize hsx : sentT T A k K.length (dueB T ago) = sx at *
            have HSX := hide hsx
            clear hsx
            have N5 := hide (fun wx (g' : Nat) (h1 : SRow wx (some ⟨g', 0, none⟩) [sx]) (h2 : SRow wx (some ⟨g, 0, none⟩) [sx]) => sameS_any [sx] [sx] (some ⟨g', 0, none⟩) (some ⟨g, 0, none⟩) 1 1 wx h1 h2 (by simp) (by simp))
            go_wp2_with fail
            refine (unhide N4).mono ?_
            rintro e w7 (⟨hx1, hx2, _⟩ | ⟨_, g', rfl, h1, h2, h3, hP7, hS7⟩)
            · exfalso
              rw [due_same] at hx1
              rcases unhide HD with hy | hy
              · rw [hx1] at hy; cases hy
              · rw [hx2] at hy; cases hy
            · rw [due_same, sent_same, unhide HSX] at h3
              rw [due_same, unhide HTQ2] at hP7
              have hgl6 : g < W6.heap.size := World.block_lt_of_cell? W6 _ (unhide HG6)
              have hg7 : w7.cell? ⟨g, 0, none⟩ = some (.string sx) := (hS7.keep.cell (a := ⟨g, 0, none⟩) hgl6 (fun hq => by have := ((unhide HI).p.ge g hq).2; have := unhide HG2; have := unhide HSa; omega)).trans (unhide HG6)
              have HP7 := hide hP7; have HS8 := hide hS7; have H3 := hide h3; have HG7 := hide hg7
              clear hP7 hS7 h1 h2 h3 hg7 hgl6
              go_wp2_with fail
              refine (unhide N5 _ _ (srow_one (unhide H3)) (srow_one (unhide HG7))).mono ?_
              rintro e w8 ⟨rfl, hb8⟩
              have HB8 := hide hb8
              clear hb8
              go_wp2_with fail
              go_meet
              exact ⟨by simp, rfl, einv_done (unhide HS2) (unhide HI).nr (unhide HI).br (unhide HS5 _ _ _ ((unhide HI).gs.below ((unhide HBA).trans ((unhide HB45).mono (unhide HBA).size)))) (unhide HS6 _ _ _ ((unhide HI).ks.below ((unhide HBA).trans ((unhide HB45).mono (unhide HBA).size)))) ((unhide HP7).below (unhide HB8)) ((unhide HS8).trans (StepP.of_below (unhide HB8))) rfl rfl rfl rfl (unhide HTQ1), law_below (unhide HBW) (unhide HS7) (unhide HS1) ((unhide HS8).trans (StepP.of_below (unhide HB8)))⟩
        · have N3 := hide (rgot_any Wa go G.length gc (A : Int) ago ko K kc o told (hI.ks.krow.below (unhide HBa)) (by omega) hI.good.kz hI.good.inn.2.2.2)
          have t0 : (act == 0) = false := by simpa using ha0
          have t1 : (act == 1) = false := by simpa using ha1
          have t2 : (act == 2) = false := by simpa using ha2
          have t3 : (act == 3) = false := by simpa using ha3
          have HGG := hide hI.good.inn.2.2.1
          have HAL := hide (show ((inL (bodies K)).1.length : Int) ≤ 1048576 by have := hI.good.al; omega)
          have HGO := hide (show (got.length : Int) ≤ 1048576 by have := hI.good.gotl; omega)
          have HGD := hide hI.good.gotten
          clear hI hgl hkl ha0 ha1 ha2 ha3
          generalize hnl : (inL (bodies K)).1.length = nl at *
          have HNL := hide hnl
          go_wp2_with fail
          refine (unhide N3).mono ?_
          rintro e w4 ⟨hb4, ao2, c2, he, hsr, hlo⟩
          rw [hnl] at he
          subst he
          have HSR := hide hsr; have HLO := hide hlo
          clear hsr hlo hnl
          have hbA : Below wr.heap.size wr w4 := (unhide HBa).trans (hb4.mono (unhide HBa).size)
          obtain ⟨W5, hW5⟩ : ∃ W5, W5 = w4.alloc (.cells #[.slice go G.length gc, .int .i64 (A : Int), .int .i64 ago, .slice ko K.length kc, .bool o, .int .i64 (nl : Int)] 39) := ⟨_, rfl⟩
          have hB5 : Below wr.heap.size wr W5 := by rw [hW5]; exact hbA.alloc hbA.size _
          have hB45 : Below w4.heap.size w4 W5 := by rw [hW5]; exact (Below.refl _ _).alloc (Nat.le_refl _) _
          have q1 := (hB5.block rb hra).trans (unhide HI).r
          have q2 := heap_alloc_new w4 (.cells #[.slice go G.length gc, .int .i64 (A : Int), .int .i64 ago, .slice ko K.length kc, .bool o, .int .i64 (nl : Int)] 39)
          rw [← hW5] at q2
          have q3 := (hB5.block wr.heap.size)
          have q4 : W5.heap[wr.heap.size]? = _ := ((hB45.block wr.heap.size (by have := hb4.size; have := unhide HSa; omega)).trans (hb4.block wr.heap.size (by have := unhide HSa; omega))).trans (unhide HXa)
          clear d0 d1 d2 d3 d4 d5 k0 k1 k2 k3 k4 k5 z0 z1 q3
          obtain ⟨⟨d0, d1, d2, d3, d4, d5⟩, k0, k1, k2, k3, k4, k5⟩ := six_cells q1
          obtain ⟨⟨x0, x1, x2, x3, x4, x5⟩, _⟩ := six_cells q2
          have HW5 := hide hW5
          obtain ⟨W6, hW6⟩ : ∃ W6, W6 = (((((W5.setCell ⟨rb, 0, none⟩ (.slice go G.length gc)).setCell ⟨rb, 1, none⟩ (.int .i64 (A : Int))).setCell ⟨rb, 2, none⟩ (.int .i64 ago)).setCell ⟨rb, 3, none⟩ (.slice ko K.length kc)).setCell ⟨rb, 4, none⟩ (.bool o)).setCell ⟨rb, 5, none⟩ (.int .i64 (nl : Int)) := ⟨_, rfl⟩
          obtain ⟨s1, s2, s3, s4, s5, s6, s7⟩ := stored6 (unhide HI).p (unhide HI).r (unhide HI).nr (unhide HI).br hB5 (.slice go G.length gc) (.int .i64 (A : Int)) (.int .i64 ago) (.slice ko K.length kc) (.bool o) (.int .i64 (nl : Int))
          have e6 : put6 W5 rb (.slice go G.length gc) (.int .i64 (A : Int)) (.int .i64 ago) (.slice ko K.length kc) (.bool o) (.int .i64 (nl : Int)) = W6 := hW6.symm
          rw [e6] at s1 s2 s3 s4 s5 s6 s7
          have hqr : wr.heap.size ≠ rb := by omega
          have z1 : W6.cell? ⟨wr.heap.size, 1, none⟩ = some (.string text) := (cell_of_row _ _ 1 _ _ _ ((s3 _ hqr).trans q4)).trans rfl
          have HW6 := hide hW6; have HS1 := hide s1; have HS2 := hide s2; have HS3 := hide s3; have HS4 := hide s4; have HS5 := hide s5; have HS6 := hide s6; have HS7 := hide s7; have HB4 := hide hb4; have HBA := hide hbA; have HB45 := hide hB45
          clear hW5 hW6 e6 s1 s2 s3 s4 s5 s6 s7 q1 q2 q4 hb4 hbA hB5 hB45
          go_upto_region 10 with fail
          rw [← unhide HW5]
          go_upto_region 11 with fail
          rw [← unhide HW6]
          clear d0 d1 d2 d3 d4 d5 k0 k1 k2 k3 k4 k5 x0 x1 x2 x3 x4 x5 HW5 HW6
          have N4 := hide (pgot_any W6 w.heap.size w.heap.size T _ _ _ _ o part lost got tv pv gv (unhide HS1))
          have hs4 : w4.heap.size ≤ W6.heap.size := by have := (unhide HB45).size; have := unhide HS4; omega
          have hsr6 : SRow W6 ao2 got := by
            rw [unhide HGG]
            exact (unhide HSR).keep (S := fun q => q = rb) (fun q hq hn => (unhide HS3 q hn).trans ((unhide HB45).block q hq)) hs4 (fun q off hq e => by have := unhide HLO q off hq; have := unhide HSa; omega)
          have HSR6 := hide hsr6
          have hdl : nl - told = got.length := by rw [unhide HGG, List.length_drop, unhide HNL]
          rw [hdl]
          have N5 := hide (fun wx (ga : Option Addr) (gc' : Nat) (h1 : SRow wx ga got) (h2 : SRow wx ao2 got) => sameS_any got got ga ao2 gc' c2 wx h1 h2 (by have := unhide HGO; omega) (by have := unhide HGO; omega))
          clear hsr6 hs4 hdl
          go_wp2_with fail
          refine (unhide N4).mono ?_
          rintro e w7 ⟨ga, gc', rfl, hr7, hP7, hS7⟩
          have hr8 : SRow w7 ao2 got := (unhide HSR6).keep (S := InP w.heap.size tv pv gv) hS7.keep.block hS7.keep.size (fun q off hq hx => by have := ((unhide HI).p.ge q hx).2; have := unhide HLO q off hq; have := unhide HSa; omega)
          have HP7 := hide hP7; have HS8 := hide hS7; have HR7 := hide hr7; have HR8 := hide hr8
          clear hP7 hS7 hr7 hr8
          go_wp2_with fail
          refine (unhide N5 _ _ _ (unhide HR7) (unhide HR8)).mono ?_
          rintro e w8 ⟨rfl, hb8⟩
          have HB8 := hide hb8
          clear hb8
          go_wp2_with fail
          go_meet
          exact ⟨by simp, rfl, einv_done (unhide HS2) (unhide HI).nr (unhide HI).br (unhide HS5 _ _ _ ((unhide HI).gs.below ((unhide HBA).trans ((unhide HB45).mono (unhide HBA).size)))) (unhide HS6 _ _ _ ((unhide HI).ks.below ((unhide HBA).trans ((unhide HB45).mono (unhide HBA).size)))) ((unhide HP7).below (unhide HB8)) ((unhide HS8).trans (StepP.of_below (unhide HB8))) rfl rfl rfl rfl (unhide HGD), law_below (unhide HBW) (unhide HS7) (unhide HS1) ((unhide HS8).trans (StepP.of_below (unhide HB8)))⟩
      case rest =>
      obtain ⟨rfl, rfl, hE2, hB2⟩ := hcut
      rename World => wm
      clear c0 c1 HE HBW HWa HBa HXa HSa
      obtain ⟨G, T, A, k, ago, K, o, told, part, lost, got, tv, pv, gv, go, gc, ko, kc, hI⟩ := hE2
      obtain ⟨⟨d0, d1, d2, d3, d4, d5⟩, k0, k1, k2, k3, k4, k5⟩ := six_cells hI.r
      have hgl := hI.good.gl
      have hTl : (T.length : Int) ≤ 1048577 := by
        obtain ⟨D, hG, _⟩ := hI.good.out
        have : G.length = D.length + T.length := by rw [hG]; simp
        omega
      have N6 := hide (fun wx (hb : Below wm.heap.size wm wx) => pleft_any wx w.heap.size w.heap.size T _ _ _ _ o part lost got tv pv gv (hI.p.below hb))
      have N7 := hide (fun wx (hb : Below wm.heap.size wm wx) => rleft_any G T A k go gc ago ko K.length kc o (told : Int) wx (hI.gs.srow.below hb) hI.good.gz (by omega) hI.good.out)
      have HI := hide hI
      have hb0 : Below wm.heap.size wm wm := Below.refl _ _
      clear hI hgl
      generalize T.length = tn at *
      have hbne : ((tn : Int) != (tn : Int)) = false := by simp
      go_upto_region 27 with fail
      go_cut [96, 22] from 22 to 97 (fun c iv wx => c = .bool false ∧ iv = .int .i64 (j : Int) ∧ Below wm.heap.size wm wx)
      case first =>
        go_region_with ((first
          | (go_at_call 25; refine (unhide N6 _ ?_).mono ?_; (focus (repeat (first | (with_reducible assumption) | (with_reducible refine Below.drew ?_)))); rintro e w9 ⟨rfl, hw9⟩; subst hw9)
          | (go_at_call 26; refine (unhide N7 _ ?_).mono ?_; (focus (repeat (first | (with_reducible assumption) | (with_reducible refine Below.drew ?_)))); rintro e w8 ⟨rfl, hb8⟩; have hbx : Below wm.heap.size wm w8 := (by first | exact hb8 | exact ⟨hb8.os, hb8.tape, hb8.output, hb8.size, hb8.block⟩))))
        all_goals
          go_wp2_with fail
          go_meet
          exact ⟨by simp, rfl, by first | exact hbx | exact hbx.drew | exact hbx.drew.drew⟩
      case rest =>
      obtain ⟨rfl, rfl, hb9⟩ := hcut
      have hE9 : EI wc w.heap.size rb w.heap.size (j + 1) := ⟨G, T, A, k, ago, K, o, told, part, lost, got, tv, pv, gv, go, gc, ko, kc, ⟨(unhide HI).p.below hb9, (hb9.block rb (unhide HI).rlt).trans (unhide HI).r, (unhide HI).nr, (unhide HI).br, (unhide HI).gs.below hb9, (unhide HI).ks.below hb9, (unhide HI).good⟩⟩
      have hB9 : Below w.heap.size w wc := hB2.trans (hb9.mono hB2.size)
      have HE9 := hide hE9
      clear hE9 hb9 d0 d1 d2 d3 d4 d5 k0 k1 k2 k3 k4 k5
      go_wp2
      go_roundw
      case rel => exact ⟨j + 1, by omega, by go_num, unhide HE9, hB9⟩
      case measure => simp [intOf]; omega
    · have hje : j = l.length := by omega
      go_wp2
      go_ret
      exact ⟨rfl, hbw⟩
end Go.Proofs.YtmbjknffmaphbaaDoor
