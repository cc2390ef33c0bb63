/- clear, the document's own: Cut. -/
import Derived.Test.YtbgplapbdghdmaaClrZ
namespace Go.Proofs.Ytbgplapbdghdmaa
open Go.RowKit
set_option linter.unusedVariables false
set_option linter.unusedSimpArgs false
set_option maxRecDepth 100000

variable {w w' : World} {G : Nat → Prop} {r : Nat} {S : Clr} {vL vO : Value} {ks : List (Kse × Value)} {os : List Ow}
def rcutPost (w : World) (G : Nat → Prop) (r : Nat) (S : Clr) (e : Ending) (w' : World) : Prop :=
  ∃ (v : Value) (G' : Nat → Prop), e = .returned v ∧ OwnR w' w.heap.size 46 3 cellsO v (cutL S.ow) ∧ RAt w' G' r { S with ow := fun _ _ => 0 } ∧ Chg G w w' ∧ (∀ x, G' x → G x ∨ w.heap.size ≤ x) ∧ (∀ x, G' x → v.ownBlock ≠ some x)
theorem cutB_len (ow : Int → Int → Int) (a : Int) (k : Nat) : (cutB ow a k).length ≤ k := by
  induction k with
  | zero => simp [cutB]
  | succ k ih => rw [cutB, List.length_append]; split <;> simp <;> omega
theorem cutA_len (ow : Int → Int → Int) (k : Nat) : (cutA ow k).length ≤ 99 * k := by
  induction k with
  | zero => simp [cutA]
  | succ k ih => rw [cutA, List.length_append]; have := cutB_len ow ((k : Int) + 1) 99; omega
def nS (os : List Ow) (a b : Int) (j : Nat) : Int := if a = b then 0 else sumO (os.take j) a b
theorem nS_succ {os : List Ow} {a b : Int} {j : Nat} {o : Ow} (h : os[j]? = some o) : nS os a b (j + 1) = if o.a = a ∧ o.b = b ∧ a ≠ b then nS os a b j + o.n else nS os a b j := by
  obtain ⟨hj, rfl⟩ := List.getElem?_eq_some_iff.1 h
  unfold nS
  rw [List.take_succ_eq_append_getElem hj, sumO_append]
  simp only [sumO]
  by_cases e : a = b
  · rw [if_pos e, if_neg (fun hh => hh.2.2 e), if_pos e]
  · rw [if_neg e, if_neg e]
    by_cases e2 : os[j].a = a ∧ os[j].b = b
    · rw [if_pos e2, if_pos ⟨e2.1, e2.2, e⟩]; omega
    · rw [if_neg e2, if_neg (fun hh => e2 ⟨hh.1, hh.2.1⟩)]; omega
theorem nS_in (h : RIn w G r S vL vO ks os) (hok : okS S) (a b : Int) (j : Nat) : 0 ≤ nS os a b j ∧ nS os a b j ≤ 500000000000000000 := by
  unfold nS
  split
  · omega
  · next e =>
    have h1 := sumO_pos (l := os.take j) (fun o ho => h.pos o (List.mem_of_mem_take ho)) a b
    have h2 := sumO_take h.pos a b j
    rw [h.sums a b e] at h2
    have := hok.small a b
    omega
theorem nS_all (h : RIn w G r S vL vO ks os) (hok : okS S) (a b : Int) : nS os a b os.length = S.ow a b := by
  unfold nS
  rw [List.take_length]
  split
  · next e =>
    by_cases hz : S.ow a b = 0
    · exact hz.symm
    · exact absurd e (hok.ow2 a b hz).2.2.2.2
  · next e => exact h.sums a b e
set_option maxHeartbeats 4000000 in
theorem rcut_any (h : RIn w G r S vL vO ks os) (hok : okS S) (hcnt : os.length ≤ 500000) : Calls Try.prog 18 #[.pointer (some ⟨r, 0, none⟩)] w (rcutPost w G r S) := by
  obtain ⟨i0, hi, hz0, hz1, hz2⟩ := info_parts infoO
  obtain ⟨⟨ao, capO, hvO⟩, hfO⟩ := h.owed.form
  obtain ⟨_, _, _, _, _, _, c7⟩ := h.blk.cells
  have hrl := h.blk.lt
  have hlO : (os.length : Int) ≤ 500000 := by omega
  rw [hvO] at c7
  have HH := hide h; have HOK := hide hok; have HI := hide hi; have Z0 := hide hz0; have Z1 := hide hz1; have Z2 := hide hz2; have HVO := hide hvO; have HFO := hide hfO; have HLO := hide hlO
  clear h hok hi hz0 hz1 hz2 hvO hfO hcnt hlO
  go_enter Try.func18, Try.ntmps18
  go_wp2
  go_loopw [3, 4] (fun v av wr => ∃ ka : Nat, ka ≤ 99 ∧ av = .int .i64 ((ka : Int) + 1) ∧ OwnR wr w.heap.size 46 3 cellsO v (cutA S.ow ka) ∧ Below w.heap.size w wr) (fun _ av _ => 100 - (intOf av).toNat)
  case atStart => exact ⟨0, by omega, rfl, OwnR.nil _ _ _ _ _, Below.refl _ _⟩
  case round =>
    obtain ⟨ka, hka, rfl, hv, hbl⟩ := hrel
    by_cases hlt : ka < 99
    · have hka1 : (ka : Int) + 1 ≤ 99 := by omega
      have HV := hide hv; have HB := hide hbl
      clear hv hbl
      go_wp2
      rename World => wo
      go_loopw [3, 5] (fun v bv wx => ∃ kb : Nat, kb ≤ 99 ∧ bv = .int .i64 ((kb : Int) + 1) ∧ OwnR wx w.heap.size 46 3 cellsO v (cutA S.ow ka ++ cutB S.ow ((ka : Int) + 1) kb) ∧ Below w.heap.size w wx) (fun _ bv _ => 100 - (intOf bv).toNat)
      case atStart => exact ⟨0, by omega, rfl, by rw [cutB, List.append_nil]; exact unhide HV, unhide HB⟩
      case round =>
        obtain ⟨kb, hkb, rfl, hv2, hbl2⟩ := hrel
        by_cases hlt2 : kb < 99
        · have hkb1 : (kb : Int) + 1 ≤ 99 := by omega
          have HV2 := hide hv2; have HB2 := hide hbl2
          have c7' : wr.cell? ⟨r, 7, none⟩ = some (.slice ao os.length capO) := cell_far hbl2 hrl c7
          clear hv2 hbl2
          have a0 : (0 : Int) = nS os ((ka : Int) + 1) ((kb : Int) + 1) 0 := by unfold nS; split <;> rfl
          have HA0 := hide a0
          clear a0
          go_wp2
          rename World => wm
          go_loopw [6, 22] (fun nv iv wx => ∃ j : Nat, j ≤ os.length ∧ iv = .int .i64 j ∧ nv = .int .i64 (nS os ((ka : Int) + 1) ((kb : Int) + 1) j) ∧ Below wm.heap.size wm wx) (fun _ iv _ => os.length - (intOf iv).toNat)
          case atStart => exact ⟨0, Nat.zero_le _, rfl, by rw [← unhide HA0], Below.refl _ _⟩
          case round =>
            obtain ⟨j, hj, rfl, hnv, hbl3⟩ := hrel
            subst hnv
            have HB3 := hide hbl3
            by_cases hlt3 : j < os.length
            · obtain ⟨o, ho⟩ : ∃ o, os[j]? = some o := ⟨_, List.getElem?_eq_getElem hlt3⟩
              rcases unhide HFO with hn | ⟨gO, cap', hv, _, hgl⟩
              · rw [hn] at hlt3; simp at hlt3
              have hv' := (unhide HVO).symm.trans hv
              injection hv' with hv1 _ hv3
              subst hv1 hv3
              have hrow : OwnR w 0 46 3 cellsO (.slice (some ⟨gO, 0, none⟩) os.length capO) os := by have := (unhide HH).owed; rw [unhide HVO] at this; exact this
              have hbw : Below w.heap.size w wr := (unhide HB2).trans (hbl3.mono (unhide HB2).size)
              have d0 : wr.cell? ⟨gO, j * 3, none⟩ = some (.int .i64 o.a) := cell_far hbw hgl (by have := OwnR.cell cellsO_len hrow j o ho 0 (by omega); rw [Nat.add_zero] at this; exact this)
              have d1 : wr.cell? ⟨gO, j * 3 + 1, none⟩ = some (.int .i64 o.b) := cell_far hbw hgl (by rw [OwnR.cell cellsO_len hrow j o ho 1 (by omega)]; rfl)
              have d2 : wr.cell? ⟨gO, j * 3 + 2, none⟩ = some (.int .i64 o.n) := cell_far hbw hgl (by rw [OwnR.cell cellsO_len hrow j o ho 2 (by omega)]; rfl)
              have hji : (j : Int) < (os.length : Int) := by omega
              have hlO := unhide HLO
              have hss := nS_succ (a := (ka : Int) + 1) (b := (kb : Int) + 1) ho
              have hin := nS_in (unhide HH) (unhide HOK) ((ka : Int) + 1) ((kb : Int) + 1) (j + 1)
              have HSS := hide hss; have HIN := hide hin
              have hls : wm.heap.size ≤ wr.heap.size := hbl3.size
              have HLS := hide hls
              clear ho hrow hbw hss hin hbl3 hgl hv hls
              obtain ⟨z, hz⟩ : ∃ z, z = nS os ((ka : Int) + 1) ((kb : Int) + 1) j := ⟨_, rfl⟩
              rw [← hz] at HSS ⊢
              clear hz
              by_cases ea : o.a = (ka : Int) + 1
              · have ba : (o.a == (ka : Int) + 1) = true := by simpa using ea
                by_cases eb : o.b = (kb : Int) + 1
                · have bb : (o.b == (kb : Int) + 1) = true := by simpa using eb
                  by_cases ec : (ka : Int) + 1 = (kb : Int) + 1
                  · have bc : ((ka : Int) + 1 != (kb : Int) + 1) = false := by simpa using ec
                    have HN : Hid (nS os ((ka : Int) + 1) ((kb : Int) + 1) (j + 1) = z) := hide (by rw [unhide HSS, if_neg (fun hh => hh.2.2 ec)])
                    clear ea eb ec HSS HIN
                    go_wp2
                    go_roundw
                    case rel => exact ⟨j + 1, by omega, by go_num, by rw [unhide HN], (unhide HB3).alloc (unhide HLS) _⟩
                    case measure => simp [intOf]; omega
                  · have bc : ((ka : Int) + 1 != (kb : Int) + 1) = true := by simpa using ec
                    have hN : nS os ((ka : Int) + 1) ((kb : Int) + 1) (j + 1) = z + o.n := by rw [unhide HSS, if_pos ⟨ea, eb, ec⟩]
                    have u1 : wrap64 (z + o.n) = z + o.n := by rw [← hN]; have := unhide HIN; unfold wrap64; omega
                    have HN := hide hN
                    clear ea eb ec HSS HIN hN
                    go_wp2
                    go_roundw
                    case rel => exact ⟨j + 1, by omega, by go_num, by rw [unhide HN]; first | done | rw [u1], (unhide HB3).alloc (unhide HLS) _⟩
                    case measure => simp [intOf]; omega
                · have bb : (o.b == (kb : Int) + 1) = false := by simpa using eb
                  have HN : Hid (nS os ((ka : Int) + 1) ((kb : Int) + 1) (j + 1) = z) := hide (by rw [unhide HSS, if_neg (fun hh => eb hh.2.1)])
                  clear ea eb HSS HIN
                  go_wp2
                  go_roundw
                  case rel => exact ⟨j + 1, by omega, by go_num, by rw [unhide HN], (unhide HB3).alloc (unhide HLS) _⟩
                  case measure => simp [intOf]; omega
              · have ba : (o.a == (ka : Int) + 1) = false := by simpa using ea
                have HN : Hid (nS os ((ka : Int) + 1) ((kb : Int) + 1) (j + 1) = z) := hide (by rw [unhide HSS, if_neg (fun hh => ea hh.1)])
                clear ea HSS HIN
                go_wp2
                go_roundw
                case rel => exact ⟨j + 1, by omega, by go_num, by rw [unhide HN], (unhide HB3).alloc (unhide HLS) _⟩
                case measure => simp [intOf]; omega
            · have hje : j = os.length := by omega
              subst hje
              have hall := nS_all (unhide HH) (unhide HOK) ((ka : Int) + 1) ((kb : Int) + 1)
              have h0 := (unhide HOK).ow0 ((ka : Int) + 1) ((kb : Int) + 1)
              obtain ⟨z, hz⟩ : ∃ z, z = S.ow ((ka : Int) + 1) ((kb : Int) + 1) := ⟨_, rfl⟩
              have HE : Hid (cutB S.ow ((ka : Int) + 1) (kb + 1) = cutB S.ow ((ka : Int) + 1) kb ++ (if z = 0 then [] else [⟨(ka : Int) + 1, (kb : Int) + 1, z⟩])) := hide (by rw [hz]; rfl)
              rw [← hz] at h0 hall
              rw [hall]
              have HH0 := hide h0
              have hlen : (cutA S.ow ka ++ cutB S.ow ((ka : Int) + 1) kb).length ≤ 99 * ka + kb := by rw [List.length_append]; have := cutA_len S.ow ka; have := cutB_len S.ow ((ka : Int) + 1) kb; omega
              have HLN := hide hlen
              have hbs := hbl3.size
              have hbw2 := (unhide HB2).size
              have HBS := hide hbs; have HBW2 := hide hbw2
              have hrow3 := (unhide HV2).below hbl3
              have HR3 := hide hrow3
              clear hall h0 hz hlen hbs hbw2 hrow3 hbl3
              by_cases hpos : 0 < z
              · have HZ := hide (show ¬ z = 0 by omega)
                go_wp2_with (at_builtin; refine wpList_append_own _ rfl _ _ 43 rfl w.heap.size 46 i0 (.agg #[.int .i64 0, .int .i64 0, .int .i64 0]) 3 24 Try.underlying43 (unhide HI) (unhide Z0) (unhide Z1) (unhide Z2) rfl (by decide) _ _ _ rfl ((unhide HR3).alloc _) ⟨wr.heap.size, 0, none⟩ 1 1 [.int .i64 ((ka : Int) + 1), .int .i64 ((kb : Int) + 1), .int .i64 z] rfl rfl (World.news_of_block (heap_alloc_new wr _)) ?c2 ?c3 ?c4 ?c5 ?_)
                case c2 => simp [Value.oneCell']
                case c3 => have := unhide HLN; unfold maxLen; omega
                case c4 => have := unhide HLN; omega
                case c5 => have := unhide HBS; have := unhide HBW2; simp; omega
                intro v5 w5 hown5 hgrow5 _
                (try go_frame)
                have ho5 : OwnR w5 w.heap.size 46 3 cellsO v5 ((cutA S.ow ka ++ cutB S.ow ((ka : Int) + 1) kb) ++ [⟨(ka : Int) + 1, (kb : Int) + 1, z⟩]) := OwnR.snoc (⟨(ka : Int) + 1, (kb : Int) + 1, z⟩ : Ow) (by rw [List.length_append]; exact hown5)
                have hb5 : Below w.heap.size w w5 := (((unhide HB2).trans ((unhide HB3).mono (unhide HBW2))).alloc (by have := unhide HBS; have := unhide HBW2; omega) (.cells #[.int .i64 ((ka : Int) + 1), .int .i64 ((kb : Int) + 1), .int .i64 z] 46)).grown hgrow5 (by have := unhide HBS; have := unhide HBW2; simp; omega) (fun k hk => ((unhide HR3).lt k hk).1)
                have HO5 := hide ho5; have HB5 := hide hb5
                clear ho5 hb5 hown5 hgrow5
                go_wp2
                go_roundw
                case rel => exact ⟨kb + 1, by omega, by go_num, by rw [unhide HE, if_neg (unhide HZ), ← List.append_assoc]; exact unhide HO5, unhide HB5⟩
                case measure => simp [intOf]; omega
              · have HZ := hide (show z = 0 by have := unhide HH0; omega)
                go_wp2
                go_roundw
                case rel => exact ⟨kb + 1, by omega, by go_num, by rw [unhide HE, if_pos (unhide HZ), List.append_nil]; exact unhide HR3, (unhide HB2).trans ((unhide HB3).mono (unhide HBW2))⟩
                case measure => simp [intOf]; omega
        · have hke : kb = 99 := by omega
          subst hke
          have HV2 := hide hv2; have HB2 := hide hbl2
          clear hv2 hbl2
          go_wp2
          go_roundw
          case rel => exact ⟨ka + 1, by omega, by go_num, unhide HV2, unhide HB2⟩
          case measure => simp [intOf]; omega
    · have hke : ka = 99 := by omega
      subst hke
      have hR := (unhide HH).keep hbl.size (fun x hx => hbl.block x ((unhide HH).glt x hx))
      have b7 := hR.blk.cells.2.2.2.2.2.2
      have bf := hR.blk.frozen 7
      have HV := hide hv; have HB := hide hbl; have HR := hide hR
      clear hv hbl hR
      go_wp2
      go_ret
      refine ⟨_, G, rfl, (unhide HV).other (a := ⟨r, 7, none⟩) (fun e => by have := ((unhide HV).lt r e).1; omega) _, ⟨vL, .slice none 0 0, ks, [], ?_⟩, (Chg.of_below G (unhide HB)).trans (Chg.setCell _ _ _) (fun x hx => by subst hx; exact .inl (unhide HH).gr), fun x hx => .inl hx, fun x hx e => ?_⟩
      · exact { blk := (unhide HR).blk.setO _, lst := (unhide HR).lst, row := (unhide HR).row.other (a := ⟨r, 7, none⟩) (unhide HR).ne_row _, deeds := fun k hk => ((unhide HR).deeds k hk).other (a := ⟨r, 7, none⟩) ((unhide HR).ne_deed hk) _, owed := OwnR.nil _ _ _ _ _, sums := fun a b _ => rfl, pos := fun o ho => (List.not_mem_nil ho).elim, cnt := (sumB_in S.L).1, gr := (unhide HR).gr, gL := (unhide HR).gL, gO := fun x hx => (by cases hx), gD := (unhide HR).gD, glt := fun x hx => (by have := (unhide HR).glt x hx; simpa [World.setCell] using this), nod := (unhide HR).nod }
      · have h1 := ((unhide HV).lt x e).1
        have h2 := (unhide HH).glt x hx
        omega
end Go.Proofs.Ytbgplapbdghdmaa
