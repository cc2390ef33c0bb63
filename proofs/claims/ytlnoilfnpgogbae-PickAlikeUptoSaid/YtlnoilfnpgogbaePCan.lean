/- Candidates of the program. -/
import Derived.Test.YtlnoilfnpgogbaePSta
import Derived.Test.YtlnoilfnpgogbaePKnow2
import Derived.Laws.AppendOwn
namespace Go.Proofs.Ytlnoilfnpgogbae
open Go.RowKit
set_option linter.unusedVariables false

def cellsA (x : XApp) : List Value := [.string x.name, .string x.label, .int .i64 x.prio, .bool x.confirm]
def cellsL : List XApp → List Value
  | [] => []
  | x :: r => cellsA x ++ cellsL r
theorem cellsL_snoc (l : List XApp) (x : XApp) : cellsL (l ++ [x]) = cellsL l ++ cellsA x := by
  induction l with
  | nil => simp [cellsL]
  | cons y r ih => simp [cellsL, ih]
theorem cellsL_length (l : List XApp) : (cellsL l).length = l.length * 4 := by
  induction l with
  | nil => rfl
  | cons y r ih => simp [cellsL, cellsA, ih]; omega
theorem cellsL_at (l : List XApp) (i : Nat) (x : XApp) (h : l[i]? = some x) : (cellsL l)[i * 4]? = some (.string x.name) ∧ (cellsL l)[i * 4 + 1]? = some (.string x.label) ∧ (cellsL l)[i * 4 + 2]? = some (.int .i64 x.prio) ∧ (cellsL l)[i * 4 + 3]? = some (.bool x.confirm) := by
  induction l generalizing i with
  | nil => simp at h
  | cons y r ih =>
    cases i with
    | zero =>
      obtain rfl : y = x := by simpa using h
      exact ⟨rfl, rfl, rfl, rfl⟩
    | succ i =>
      obtain ⟨h0, h1, h2, h3⟩ := ih i (by simpa using h)
      have e : ∀ j, (cellsL (y :: r))[(i + 1) * 4 + j]? = (cellsL r)[i * 4 + j]? := fun j => by
        rw [cellsL, List.getElem?_append_right (by simp [cellsA]; omega)]
        congr 1
        simp [cellsA]; omega
      exact ⟨(e 0).trans h0, (e 1).trans h1, (e 2).trans h2, (e 3).trans h3⟩
theorem infoApp : (Try.prog.info? 31).map (fun i => (i.zero, i.size, i.bytes)) = some (some (.agg #[.string ⟨#[]⟩, .string ⟨#[]⟩, .int .i64 0, .bool false]), 4, 48) := by kernel_rfl
theorem arow_of_own {w : World} {B : Nat} {v : Value} {l : List XApp} (h : w.ownsRow B 31 4 v l.length (cellsL l)) :
    (l = [] ∧ ∃ ao cap, v = .slice ao 0 cap) ∨ ∃ g cap, v = .slice (some ⟨g, 0, none⟩) l.length cap ∧ B ≤ g ∧ 1 ≤ l.length ∧ ARow w g l := by
  rcases h.2 with ⟨hv, hn⟩ | ⟨g, cap, cur, hv, hg, hh, _, _, _, htake⟩
  · exact .inl ⟨List.length_eq_zero_iff.1 hn, none, 0, hv⟩
  · rcases Nat.eq_zero_or_pos l.length with h0 | h0
    · exact .inl ⟨List.length_eq_zero_iff.1 h0, _, cap, by rw [hv, h0]⟩
    refine .inr ⟨g, cap, hv, hg, h0, cur, hh, fun i x hx => ?_⟩
    obtain ⟨h0, h1, h2, h3⟩ := cellsL_at l i x hx
    have hi : i < l.length := by
      rcases Nat.lt_or_ge i l.length with h | h
      · exact h
      · rw [List.getElem?_eq_none h] at hx; cases hx
    rw [← htake] at h0 h1 h2 h3
    rw [List.getElem?_take_of_lt (by omega)] at h0 h1 h2 h3
    exact ⟨by rw [← h0]; simp, by rw [← h1]; simp, by rw [← h2]; simp, by rw [← h3]; simp⟩
/-- a row of applications that a call gives back -/
def AGiven (w0 w' : World) (v : Value) (S : List XApp) : Prop := (S = [] ∧ ∃ ao cap, v = .slice ao 0 cap) ∨ ∃ g cap, v = .slice (some ⟨g, 0, none⟩) S.length cap ∧ w0.heap.size ≤ g ∧ ARow w' g S
theorem ownsMap_belowP {w w' : World} {P : Program} {k : TypeId} {R : Value → Option (DataW Unit × List MemPlace)} {b n : Nat} {D : DataW Unit} (h : w.ownsMap P k R b n D) (hb : Below w.heap.size w w') : w'.ownsMap P k R b n D := by
  obtain ⟨es, clock, hh, h1⟩ := h
  exact ⟨es, clock, (hb.block b (block_ltP hh)).trans hh, h1⟩
theorem MBox.belowP {w w' : World} {g gm : Nat} (h : MBox w g gm) (hb : Below w.heap.size w w') : MBox w' g gm := (hb.block g (block_ltP h)).trans h
theorem app_new (w : World) (o : Obj) (x : XApp) (e : TypeId) (j : Nat) (u : Value) (h : (cellsA x)[j]? = some u) :
    ((w.alloc o).alloc (.cells #[.string x.name, .string x.label, .int .i64 x.prio, .bool x.confirm] e)).cell? ((⟨w.heap.size + 1, 0, none⟩ : Addr).add j) = some u := by
  have hg := heap_alloc_new (w.alloc o) (.cells #[.string x.name, .string x.label, .int .i64 x.prio, .bool x.confirm] e)
  rw [show (w.alloc o).heap.size = w.heap.size + 1 by simp] at hg
  rw [show (⟨w.heap.size + 1, 0, none⟩ : Addr).add j = ⟨w.heap.size + 1, 0 + j, none⟩ from by unfold Addr.add; split <;> simp_all, Nat.zero_add, cell_of_row _ _ j _ e _ hg]
  simpa [cellsA] using h

theorem ownsRow_drewN {w : World} {base : Nat} {e : TypeId} {size : Nat} {v : Value} {n : Nat} {xs : List Value} (h : w.ownsRow base e size v n xs) (q : Nat) : (w.drewN q).ownsRow base e size v n xs := h

set_option maxRecDepth 100000 in
set_option maxHeartbeats 4000000 in
theorem candidates_yes (l : List XApp) (ao : Option Addr) (cap : Nat) (sh : List XKnown) (bo : Option Addr) (cap2 : Nat) (w : World) (hr : RowApp w ao l) (hs : RowKnown w bo sh) (he : appsE l = 0) (hk : knownE sh = 0)
    (h20 : l.length ≤ 20) (h50 : sh.length ≤ 50) (hnm : ∀ x ∈ l, x.name.size ≤ 16) :
    Calls Try.prog 13 #[.slice ao l.length cap, .slice bo sh.length cap2] w fun e w' => (∃ (v : Value) (S : List XApp), e = .returned (.tuple #[v, .int .i64 0]) ∧ Good S (candF l sh) ∧ AGiven w w' v S) ∧ Below w.heap.size w w' := by
  obtain ⟨i0, hi, hz0, hz1, hz2⟩ := info_parts infoApp
  have n1 := check_any l ao cap w hr
  rw [he] at n1
  have n2 := fun w' (hb : Below w.heap.size w w') => checkKnown_any sh bo cap2 w' (hs.below hb)
  rw [hk] at n2
  have n3 := fun w' (hb : Below w.heap.size w w') => knowledge_any sh bo cap2 w' (hs.below hb) h50
  obtain ⟨hr, _, _⟩ := hr
  have N1 := hide n1; have N2 := hide n2; have N3 := hide n3; have HR := hide hr; have HNM := hide hnm; have HI := hide hi; have Z0 := hide hz0; have Z1 := hide hz1; have Z2 := hide hz2
  clear n1 n2 n3 hr hs he hk h50 hnm hi hz0 hz1 hz2
  go_enter Try.func13, Try.ntmps13
  go_wp2_with fail
  refine (unhide N1).mono ?_
  rintro e w1 ⟨rfl, b1⟩
  go_wp2_with fail
  refine (unhide N2 _ b1).mono ?_
  rintro e w2 ⟨rfl, b2⟩
  have b3 := b1.trans (b2.mono b1.size)
  clear b1 b2
  go_wp2_with fail
  refine (unhide N3 _ b3).mono ?_
  rintro e w3 ⟨⟨D, gb, gm, rfl, hmb, hown, hrd⟩, b4⟩
  have b5 := b3.trans (b4.mono b3.size)
  have N4 := hide (fun (nm : ByteArray) (h : nm.size ≤ 16) (w' : World) (hb : Below w3.heap.size w3 w') => knows_any _ nm D gb gm w' (hmb.belowP hb) (ownsMap_belowP hown hb) hrd h)
  simp only [knows_both] at N4
  have B5 := hide b5
  clear b3 b4 b5 hmb hown hrd N1 N2 N3
  go_wp2
  go_loopw [9, 26] (fun v i wr => ∃ k : Nat, k ≤ l.length ∧ i = .int .i64 k ∧ wr.ownsRow w3.heap.size 31 4 v (candF (l.take k) sh).length (cellsL (candF (l.take k) sh)) ∧ Below w3.heap.size w3 wr) (fun _ i _ => l.length - (intOf i).toNat)
  case atStart => exact ⟨0, Nat.zero_le _, rfl, World.ownsRow_nil _ _ _ _, Below.refl _ _⟩
  case round =>
    obtain ⟨k, hk, rfl, hown, hbw⟩ := hrel
    by_cases hlt : k < l.length
    · obtain ⟨y, hy⟩ : ∃ y, l[k]? = some y := ⟨_, List.getElem?_eq_getElem hlt⟩
      rcases (unhide HR) with hnil | ⟨b, off, rfl, hb, hc⟩
      · rw [hnil] at hlt; simp at hlt
      obtain ⟨c0, c1, c2, c3⟩ := hc k y hy
      have hbz := (unhide B5).trans (hbw.mono (unhide B5).size)
      have d0 : wr.cell? ⟨b, off + k * 4, none⟩ = _ := (hbz.cell (p := ⟨b, off + k * 4, none⟩) hb).trans c0
      have d1 : wr.cell? ⟨b, off + k * 4 + 1, none⟩ = _ := (hbz.cell (p := ⟨b, off + k * 4 + 1, none⟩) hb).trans c1
      have d2 : wr.cell? ⟨b, off + k * 4 + 2, none⟩ = _ := (hbz.cell (p := ⟨b, off + k * 4 + 2, none⟩) hb).trans c2
      have d3 : wr.cell? ⟨b, off + k * 4 + 3, none⟩ = _ := (hbz.cell (p := ⟨b, off + k * 4 + 3, none⟩) hb).trans c3
      have hst := candF_take l sh k y hy
      have hcl : (candF (l.take k) sh).length ≤ 20 := by have := candF_length (l.take k) sh; have := List.length_take_le k l; omega
      have N5 := hide (fun w' hb => unhide N4 y.name (unhide HNM y (List.mem_of_getElem? hy)) w' hb)
      have hbA := fun o : Obj => hbw.alloc hbw.size o
      have HBA := hide hbA; have HBW := hide hbw
      have hsz0 := hbw.size
      clear hc c0 c1 c2 c3 hbz hy hbA hbw
      generalize candF (l.take k) sh = F at *
      cases hbo : bothB sh y.name.data.toList with
      | false =>
        rw [hbo] at hst N5
        simp only [cond_false, List.append_nil] at hst
        have HST := hide hst
        have HOW := hide hown
        clear hown hbo hst
        go_wp2_with fail
        refine (unhide N5 _ (unhide HBA _)).mono ?_
        rintro e w4 ⟨rfl, q, rfl⟩
        go_wp2
        go_roundw
        case rel => exact ⟨k + 1, by omega, by go_num, by rw [unhide HST]; exact ownsRow_drewN ((unhide HOW).alloc _) _, below_drewN (unhide HBA _) _⟩
        case measure => simp [intOf]; omega
      | true =>
        rw [hbo] at hst N5
        simp only [cond_true] at hst
        have HST := hide hst
        have HOW := hide hown
        clear hown hbo hst
        go_wp2_with fail
        refine (unhide N5 _ (unhide HBA _)).mono ?_
        rintro e w4 ⟨rfl, q, rfl⟩
        have hown4 := (ownsRow_drewN ((unhide HOW).alloc (.cells #[.string y.name, .string y.label, .int .i64 y.prio, .bool y.confirm] 31)) q).alloc (.cells #[.string y.name, .string y.label, .int .i64 y.prio, .bool y.confirm] 31)
        have hlt4 : ∀ q', u9.ownBlock = some q' → w3.heap.size ≤ q' := fun q' h => ((unhide HOW).lt q' h).1
        have H4 := hide hown4; have HL4 := hide hlt4
        clear hown4 hlt4
        go_wp2_with (at_builtin; refine wpList_append_own _ rfl _ _ 22 rfl w3.heap.size 31 i0 (.agg #[.string ⟨#[]⟩, .string ⟨#[]⟩, .int .i64 0, .bool false]) 4 48 Try.underlying22 (unhide HI) (unhide Z0) (unhide Z1) (unhide Z2) rfl (by decide) _ _ _ rfl (unhide H4) ⟨wr.heap.size + 1, 0, none⟩ 1 1 (cellsA y) rfl rfl (fun j u hu => app_new (wr.drewN q) _ y _ j u hu) ?c2 ?c3 ?c4 ?c5 ?_)
        case c2 => intro u hu; simp [cellsA] at hu; rcases hu with rfl | rfl | rfl | rfl <;> rfl
        case c3 => unfold maxLen; omega
        case c4 => omega
        case c5 => simp; omega
        intro v' w5 hown' hgrow _
        have hb5 : Below w3.heap.size w3 w5 := ((below_drewN (unhide HBA _) q).alloc (by simp; omega) _).grown hgrow (by simp; omega) (fun q hq => unhide HL4 q hq)
        have hown5 : w5.ownsRow w3.heap.size 31 4 v' (F ++ [y]).length (cellsL (F ++ [y])) := by
          rw [cellsL_snoc, List.length_append]
          exact hown'
        have H5 := hide hown5; have HB5 := hide hb5
        clear hown' hgrow hown5 hb5 H4 HL4
        go_wp2
        go_roundw
        case rel => exact ⟨k + 1, by omega, by go_num, by rw [unhide HST]; exact unhide H5, unhide HB5⟩
        case measure => simp [intOf]; omega
    · rw [List.take_of_length_le (by omega)] at hown
      have hfl : (candF l sh).length ≤ 20 := by have := candF_length l sh; omega
      have hbz := (unhide B5).trans (hbw.mono (unhide B5).size)
      rcases arow_of_own hown with ⟨hF, ao', cap', rfl⟩ | ⟨g, cap', rfl, hg, h1, hA⟩
      · have N6 := hide (sort_none ao' cap' wr)
        have HF := hide hF
        clear hown N4 hF
        go_wp2_with fail
        refine (unhide N6).mono ?_
        rintro e w6 ⟨rfl, rfl⟩
        go_wp2
        go_ret2
        exact ⟨⟨_, [], rfl, by rw [unhide HF]; exact ⟨by simp, fun _ => rfl⟩, .inl ⟨rfl, ao', cap', rfl⟩⟩, hbz⟩
      · have N6 := hide (sort_some (candF l sh) g cap' wr hA h1 hfl)
        have hgB := (unhide B5).size
        clear hown hA N4
        go_wp2_with fail
        refine (unhide N6).mono ?_
        rintro e w6 ⟨rfl, ⟨S, hAS, hSl, hGS⟩, hb6⟩
        have hb7 := hbz.trans (hb6.mono (by omega))
        have HAS := hide hAS; have HSL := hide hSl; have HGS := hide hGS; have HB7 := hide hb7
        clear hAS hSl hGS hb6 hb7 hbz hbw
        go_wp2
        go_ret2
        exact ⟨⟨_, S, rfl, unhide HGS, .inr ⟨g, cap', by rw [unhide HSL]; rfl, by omega, unhide HAS⟩⟩, unhide HB7⟩

/-- what is wrong, of the candidates -/
def candE (l : List XApp) (sh : List XKnown) : Int := if appsE l ≠ 0 then appsE l else knownE sh
theorem misB_false {x : XApp} (h : misB x = false) : 5 ≤ x.name.size ∧ x.name.size ≤ 16 ∧ x.label.size ≠ 0 ∧ x.label.size ≤ 64 := by
  have := of_decide_eq_false h
  omega
theorem anyP_false {α : Type} {l : List α} {p : α → Bool} (h : l.any p = false) : ∀ x ∈ l, p x = false := by
  intro x hx
  cases hp : p x with
  | false => rfl
  | true => rw [List.any_eq_true.2 ⟨x, hx, hp⟩] at h; cases h
theorem appsE_zero {l : List XApp} (h : appsE l = 0) : l.length ≤ 20 ∧ ∀ x ∈ l, x.name.size ≤ 16 ∧ 0 ≤ x.prio ∧ x.prio ≤ 15 := by
  unfold appsE at h
  by_cases h1 : 20 < l.length
  · rw [if_pos h1] at h; cases h
  rw [if_neg h1] at h
  cases h2 : l.any misB with
  | true => rw [h2] at h; cases h
  | false =>
  cases h3 : l.any prioB with
  | true => rw [h2, h3] at h; cases h
  | false =>
  refine ⟨by omega, fun x hx => ⟨(misB_false (anyP_false h2 x hx)).2.1, ?_⟩⟩
  have := of_decide_eq_false (anyP_false h3 x hx)
  omega
theorem knownE_zero {sh : List XKnown} (h : knownE sh = 0) : sh.length ≤ 50 := by
  unfold knownE at h
  by_cases h1 : 50 < sh.length
  · rw [if_pos h1] at h; cases h
  · omega
set_option maxHeartbeats 1000000 in
theorem candidates_no (l : List XApp) (ao : Option Addr) (cap : Nat) (sh : List XKnown) (bo : Option Addr) (cap2 : Nat) (w : World) (hr : RowApp w ao l) (hs : RowKnown w bo sh) (hne : candE l sh ≠ 0) :
    Calls Try.prog 13 #[.slice ao l.length cap, .slice bo sh.length cap2] w fun e w' => e = .returned (.tuple #[.slice none 0 0, .int .i64 (candE l sh)]) ∧ Below w.heap.size w w' := by
  have n1 := check_any l ao cap w hr
  have n2 := fun w' (hb : Below w.heap.size w w') => checkKnown_any sh bo cap2 w' (hs.below hb)
  by_cases h1 : appsE l = 0
  · have he : candE l sh = knownE sh := by rw [candE, if_neg (by omega)]
    have hn' : (knownE sh != 0) = true := by rw [he] at hne; simpa using hne
    rw [h1] at n1
    rw [he]
    generalize knownE sh = ke at *
    have N1 := hide n1; have N2 := hide n2
    clear n1 n2 hr hs h1 he hne
    go_enter Try.func13, Try.ntmps13
    go_wp2_with fail
    refine (unhide N1).mono ?_
    rintro e w1 ⟨rfl, b1⟩
    go_wp2_with fail
    refine (unhide N2 _ b1).mono ?_
    rintro e w2 ⟨rfl, b2⟩
    have b3 := b1.trans (b2.mono b1.size)
    clear b1 b2
    go_wp2
    go_ret2
    exact ⟨rfl, b3⟩
  · have he : candE l sh = appsE l := by rw [candE, if_pos h1]
    have hn' : (appsE l != 0) = true := by simpa using h1
    rw [he]
    generalize appsE l = ke at *
    have N1 := hide n1
    clear n1 n2 hr hs h1 he hne
    go_enter Try.func13, Try.ntmps13
    go_wp2_with fail
    refine (unhide N1).mono ?_
    rintro e w1 ⟨rfl, b1⟩
    go_wp2
    go_ret2
    exact ⟨rfl, b1⟩
/-- the candidates, as they are answered -/
def candS (l : List XApp) (sh : List XKnown) : List XApp := if candE l sh = 0 then candL l sh else []
theorem candidates_any (l : List XApp) (ao : Option Addr) (cap : Nat) (sh : List XKnown) (bo : Option Addr) (cap2 : Nat) (w : World) (hr : RowApp w ao l) (hs : RowKnown w bo sh) :
    Calls Try.prog 13 #[.slice ao l.length cap, .slice bo sh.length cap2] w fun e w' => (∃ v : Value, e = .returned (.tuple #[v, .int .i64 (candE l sh)]) ∧ AGiven w w' v (candS l sh)) ∧ Below w.heap.size w w' := by
  by_cases h : candE l sh = 0
  · have ha : appsE l = 0 := by
      rcases Decidable.em (appsE l = 0) with h' | h'
      · exact h'
      · rw [candE, if_pos h'] at h; exact h
    have hk : knownE sh = 0 := by rw [candE, if_neg (by omega)] at h; exact h
    obtain ⟨h20, hx⟩ := appsE_zero ha
    refine (candidates_yes l ao cap sh bo cap2 w hr hs ha hk h20 (knownE_zero hk) (fun x hx' => (hx x hx').1)).mono ?_
    rintro e w' ⟨⟨v, S, rfl, hG, hgv⟩, hb⟩
    have hS : S = candL l sh := good_passes hG (fun a ha' => (hx a (List.mem_filter.1 ha').1).2)
    refine ⟨⟨v, by rw [h], ?_⟩, hb⟩
    rw [candS, if_pos h, ← hS]
    exact hgv
  · refine (candidates_no l ao cap sh bo cap2 w hr hs h).mono ?_
    rintro e w' ⟨rfl, hb⟩
    exact ⟨⟨_, rfl, by rw [candS, if_neg h]; exact .inl ⟨rfl, none, 0, rfl⟩⟩, hb⟩
end Go.Proofs.Ytlnoilfnpgogbae
