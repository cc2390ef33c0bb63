/- Shown of the reference. -/
import Derived.Test.YtmbjknffmaphbaeDoorLayU
import Derived.Deep.AppendLies
import Derived.Deep.DeepCutAuto
import Derived.Deep.CutRange
namespace Go.Proofs.YtmbjknffmaphbaeDoor
open Go.RowKit
set_option linter.unusedVariables false

theorem bytes_toListS (b : ByteArray) : b.toList = b.data.toList := Lib.toList_data b
abbrev bl (s : ByteArray) : List UInt8 := s.data.toList
theorem infoStrS : (Tryd.prog.info? 9).map (fun i => (i.zero, i.size, i.bytes)) = some (some (.string ⟨#[]⟩), 1, 16) := by kernel_rfl
theorem info_partsS {P : Program} {t : TypeId} {z : Value} {s b : Nat} (h : (P.info? t).map (fun i => (i.zero, i.size, i.bytes)) = some (some z, s, b)) : ∃ i, P.info? t = some i ∧ i.zero = some z ∧ i.size = s ∧ i.bytes = b := by
  cases hi : P.info? t with
  | none => rw [hi] at h; cases h
  | some i => rw [hi] at h; simp at h; exact ⟨i, rfl, h.1, h.2.1, h.2.2⟩
/-- a rune's text -/
def runeS (r : Int) : ByteArray := ⟨(Lib.encodeRune r).toArray⟩
def cellsL (L : List Int) : List Value := L.map fun r => .string (runeS r)
theorem runeS_size (r : Int) : (runeS r).size ≤ 4 := by
  have := (Lib.encodeRuneZ_length r).2
  simp [runeS, ByteArray.size, Lib.encodeRune]
  exact this
theorem textR_snoc (L : List Int) (r : Int) : textR (L ++ [r]) = textR L ++ runeS r := by
  apply ByteArray.ext
  simp [textR, runeS, bytesR, ByteArray.data_append]
theorem textR_size : ∀ (L : List Int), (textR L).size ≤ 4 * L.length
  | [] => by simp [textR, bytesR, ByteArray.size]
  | r :: L => by
    have h1 := textR_size L
    have h2 := runeS_size r
    simp [textR, runeS, bytesR, ByteArray.size] at h1 h2 ⊢
    omega
theorem drop_text (s : ByteArray) (n : Nat) (h : n ≤ s.size) : bl (s.extract n s.size) = (bl s).drop n := by
  show (s.extract n s.size).data.toList = s.data.toList.drop n
  rw [ByteArray.data_extract, Array.toList_extract, List.extract_eq_take_drop]
  exact List.take_of_length_le (by rw [List.length_drop]; exact Nat.le_refl _)

set_option maxRecDepth 100000 in
set_option maxHeartbeats 4000000 in
theorem rshown_any (s : ByteArray) (w : World) (hT : Tabs w) (hs : (s.size : Int) ≤ 1048576) :
    Calls Tryd.prog 5 #[.string s] w fun e w' => e = .returned (.string (textR (shownL (letters (bl s))))) ∧ Below w.heap.size w w' := by
  obtain ⟨i0, hi, hz0, hz1, hz2⟩ := info_partsS infoStrS
  have h2 := hT.two
  have N1 := hide (fun (t : ByteArray) wx (hb : Below w.heap.size w wx) => decode_any t wx (hT.below hb h2))
  obtain ⟨L, hL⟩ : ∃ L, L = letters (bl s) := ⟨_, rfl⟩
  have hll : L.length ≤ s.size := by rw [hL]; have := letters_length (bl s); simpa using this
  rw [← hL]
  have HL := hide hL
  clear hL hT
  go_enter Tryd.func5, Tryd.ntmps5
  go_wp2
  go_loopw [0, 3] (fun t v wr => ∃ (st : ByteArray) (dn : List Int), t = .string st ∧ st.size ≤ s.size ∧ dn ++ letters (bl st) = L ∧ wr.ownsRow w.heap.size 9 1 v dn.length (cellsL dn) ∧ Below w.heap.size w wr) (fun t _ _ => match t with | .string st => st.size | _ => 0)
  case atStart => exact ⟨s, [], rfl, Nat.le_refl _, (unhide HL).symm, World.ownsRow_nil _ _ _ _, Below.refl _ _⟩
  case round =>
    obtain ⟨st, dn, rfl, hst, hdn, hv, hbw⟩ := hrel
    by_cases hne : st.size = 0
    · have hse : st.toList.isEmpty = true := by
        rw [bytes_toListS, List.isEmpty_iff]
        exact List.length_eq_zero_iff.1 (by rw [← hne]; rfl)
      have hb0 : bl st = [] := List.length_eq_zero_iff.1 (by rw [← hne]; rfl)
      rw [hb0, letters_nil, List.append_nil] at hdn
      subst hdn
      clear hne hst hb0
      obtain ⟨va, vc, rfl⟩ : ∃ va vc, u3 = .slice va dn.length vc := by
        rcases hv.2 with ⟨g1, g2⟩ | ⟨g, cap, cur, g1, _⟩
        · exact ⟨none, 0, by rw [g1, g2]⟩
        · exact ⟨_, cap, g1⟩
      have hli : (dn.length : Int) ≤ 1048576 := by omega
      have HV := hide hv; have HBW := hide hbw
      clear hv hbw
      go_wp2
      go_loopw [7, 8] (fun t i wx => ∃ k : Nat, k ≤ dn.length ∧ k ≤ 16 ∧ (16 < dn.length → k ≤ 15) ∧ i = .int .i64 k ∧ t = .string (textR (dn.take k)) ∧ wx = wr) (fun _ i _ => dn.length - (intOf i).toNat)
      case atStart => exact ⟨0, Nat.zero_le _, by omega, fun _ => by omega, rfl, rfl, rfl⟩
      case round =>
        obtain ⟨k, hk, hk16, hk15, rfl, rfl, hwx⟩ := hrel
        subst hwx
        have htz := textR_size (dn.take k)
        rw [List.length_take] at htz
        by_cases hkl : k < dn.length ∧ k < 16
        · obtain ⟨hk1, hk2⟩ := hkl
          obtain ⟨x, hx⟩ : ∃ x, dn[k]? = some x := ⟨_, List.getElem?_eq_getElem hk1⟩
          have t1 : (k : Int) < (dn.length : Int) := by omega
          have t2 : (k : Int) < 16 := by omega
          have htk : textR (dn.take (k + 1)) = textR (dn.take k) ++ runeS x := by
            rw [List.take_succ_eq_append_getElem hk1, textR_snoc]
            rw [List.getElem?_eq_getElem hk1] at hx
            rw [Option.some.inj hx]
          have hxz := runeS_size x
          by_cases h16 : 16 < dn.length
          · have t3 : (16 : Int) < (dn.length : Int) := by omega
            by_cases h15 : k = 15
            · have t4 : ((k : Int) == 15) = true := by rw [beq_iff_eq]; omega
              have HE := hide (show textR (dn.take k) ++ ⟨#[62]⟩ = textR (shownL dn) by
                rw [shownL, if_neg (by omega), textR_snoc, h15]
                rfl)
              have hadd := fun w' => run_string_add_sum (P := Tryd.prog) w' (textR (dn.take k)) ⟨#[62]⟩ (by have : (⟨#[62]⟩ : ByteArray).size = 1 := rfl; omega)
              generalize textR (dn.take k) = tk at *
              clear hx htk h15 htz hk15
              go_wp2
              go_ret
              exact ⟨by rw [← unhide HE]; rfl, unhide HBW⟩
            · have t4 : ((k : Int) == 15) = false := by rw [beq_eq_false_iff_ne]; omega
              rcases (unhide HV).2 with ⟨g1, g2⟩ | ⟨g, cap, cur, g1, _⟩
              · omega
              cases g1
              have hcl := (unhide HV).cells (g := g) rfl k (.string (runeS x)) (by simp [cellsL, hx])
              rw [Addr.add_lit, Nat.zero_add] at hcl
              have hadd := fun w' => run_string_add_sum (P := Tryd.prog) w' (textR (dn.take k)) (runeS x) (by omega)
              have HTK := hide htk
              generalize textR (dn.take k) = tk at *
              clear htk hx htz
              go_wp2
              go_roundw
              case rel => exact ⟨k + 1, by omega, by omega, fun _ => by omega, by go_num, by rw [unhide HTK], by first | rfl | trivial⟩
              case measure => simp [intOf]; omega
          · have t3 : ¬ (16 : Int) < (dn.length : Int) := by omega
            rcases (unhide HV).2 with ⟨g1, g2⟩ | ⟨g, cap, cur, g1, _⟩
            · omega
            cases g1
            have hcl := (unhide HV).cells (g := g) rfl k (.string (runeS x)) (by simp [cellsL, hx])
            rw [Addr.add_lit, Nat.zero_add] at hcl
            have hadd := fun w' => run_string_add_sum (P := Tryd.prog) w' (textR (dn.take k)) (runeS x) (by omega)
            have HTK := hide htk
            generalize textR (dn.take k) = tk at *
            clear htk hx htz
            go_wp2
            go_roundw
            case rel => exact ⟨k + 1, by omega, by omega, fun h => by omega, by go_num, by rw [unhide HTK], by first | rfl | trivial⟩
            case measure => simp [intOf]; omega
        · have hkd : k = dn.length ∧ dn.length ≤ 16 := by
            by_cases h16 : 16 < dn.length
            · have := hk15 h16; omega
            · omega
          have HE := hide (show textR (dn.take k) = textR (shownL dn) by rw [shownL, if_pos hkd.2, hkd.1, List.take_length])
          have t1 : ¬ (k : Int) < (dn.length : Int) := by omega
          generalize textR (dn.take k) = tk at *
          clear hkd htz hk15
          go_wp2
          go_ret
          exact ⟨by rw [← unhide HE]; rfl, unhide HBW⟩
    · have hse : st.toList.isEmpty = false := by
        rw [bytes_toListS, List.isEmpty_eq_false_iff]
        exact fun e => hne (by have := congrArg List.length e; simpa using this)
      have hbne : bl st ≠ [] := fun e => hne (by have := congrArg List.length e; simpa using this)
      have hgo := decodeGo_at st hne
      have hst1 := letters_step (bl st) hbne
      have hw1 := Lib.decodeL_width (bl st)
      have hw2 : (Lib.decodeL (bl st)).2 ≤ st.size := by have := Lib.decodeL_le (bl st) hbne; simpa using this
      have hr1 := Lib.decodeL_rune (bl st)
      have hlt := letter_text st hne
      have hdt := drop_text st (Lib.decodeL (bl st)).2 hw2
      have hsr : shR (bl st) = asR (Lib.decodeL (bl st)).1 (Lib.decodeL (bl st)).2 := rfl
      have hext : (st.extract (Lib.decodeL (bl st)).2 st.size).size = st.size - (Lib.decodeL (bl st)).2 := by rw [ByteArray.size_extract, Nat.min_self]
      generalize hdd : Lib.decodeL (bl st) = dd at *
      obtain ⟨r, n⟩ := dd
      simp only at *
      have n1 := fun wx hb => unhide N1 st wx hb
      rw [hgo] at n1
      simp only at n1
      have M1 := hide n1
      have hs1 : ∀ wx, (Instr.slice 9 (.string st) none (some (.int .i64 (n : Int))) none).run Tryd.prog wx = .ok (.string (st.extract 0 n)) wx := fun wx => by
        have hx := run_slice_string_to_if (P := Tryd.prog) wx 9 st .i64 (n : Int) Tryd.underlying9
        rw [if_pos ⟨by omega, by omega⟩, Int.toNat_natCast] at hx
        exact hx
      have hs2 : ∀ wx, (Instr.slice 9 (.string st) (some (.int .i64 (n : Int))) none none).run Tryd.prog wx = .ok (.string (st.extract n st.size)) wx := fun wx => by
        have hx := run_slice_string_from_if (P := Tryd.prog) wx 9 st .i64 (n : Int) Tryd.underlying9
        rw [if_pos ⟨by omega, by omega⟩, Int.toNat_natCast] at hx
        exact hx
      have HQ : Hid ((r = 65533 ∧ n = 1 ∧ shR (bl st) = 63) ∨ (¬ (r = 65533 ∧ n = 1) ∧ (r < 32 ∨ r = 127) ∧ shR (bl st) = 32) ∨ (¬ (r = 65533 ∧ n = 1) ∧ ¬ (r < 32 ∨ r = 127) ∧ runeS (shR (bl st)) = st.extract 0 n)) := hide (by
        by_cases h1 : r = 65533 ∧ n = 1
        · exact .inl ⟨h1.1, h1.2, by rw [hsr]; exact if_pos h1⟩
        · by_cases h2 : r < 32 ∨ r = 127
          · exact .inr (.inl ⟨h1, h2, by rw [hsr, asR, if_neg h1]; exact if_pos h2⟩)
          · refine .inr (.inr ⟨h1, h2, ?_⟩)
            rw [hsr, asR, if_neg h1, if_neg h2]
            exact (hlt h1).symm)
      have HDN := hide (show dn ++ [shR (bl st)] ++ letters (bl (st.extract n st.size)) = L by rw [hdt, ← hdn, hst1]; simp)
      have HEX := hide hext
      have hni : (n : Int) ≤ (st.size : Int) := by omega
      have HNZ := hide hw1
      have HV := hide hv; have HBW := hide hbw; have HST := hide hst
      have hdl : dn.length < L.length := by rw [← hdn, hst1]; simp
      have HM1 := hide (show dn.length + 1 ≤ maxLen by unfold maxLen; omega)
      have HM2 := hide (show (dn.length + 1) * 16 ≤ 140737488355328 by omega)
      generalize shR (bl st) = q at *
      have hrI : (r : Int) ≤ 1114111 := by omega
      generalize st.extract n st.size = rest at *
      generalize st.extract 0 n = first at *
      clear hv hbw hst n1 hgo hst1 hlt hdt hsr hext hdd hdn hbne hw1 hw2 hr1 hdl
      go_wp2_with fail
      refine (unhide M1 _ (unhide HBW)).mono ?_
      rintro e w1 ⟨rfl, hb1⟩
      have hbw1 : Below w.heap.size w w1 := (unhide HBW).trans (hb1.mono (unhide HBW).size)
      have own1 : w1.ownsRow w.heap.size 9 1 u3 dn.length (cellsL dn) := by
        rcases (unhide HV) with ⟨g1, g2⟩
        refine ⟨g1, ?_⟩
        rcases g2 with g2 | ⟨g, cap, cur, rfl, g3, g4, g5⟩
        · exact .inl g2
        · exact .inr ⟨g, cap, cur, rfl, g3, (hb1.block g (((unhide HV).lt g rfl).2)).trans g4, g5⟩
      have HO1 := hide own1; have HB1 := hide hbw1
      clear hb1 own1 hbw1
      rcases unhide HQ with ⟨h1, h2, h3⟩ | ⟨h1, h2, h3⟩ | ⟨h1, h2, h3⟩
      · have t1 : ((r : Int) == 65533) = true := by rw [beq_iff_eq]; omega
        have t2 : ((n : Int) == 1) = true := by rw [beq_iff_eq]; omega
        have t3 : ¬ (r : Int) < 32 := by omega
        have t4 : ((r : Int) == 127) = false := by rw [beq_eq_false_iff_ne]; omega
        have HR := hide (show runeS q = ⟨#[63]⟩ by rw [h3]; rfl)
        clear h1 h2 h3 HQ
        go_wp2_with (at_builtin; refine wpList_append_lies _ rfl _ _ 26 rfl w.heap.size 9 i0 (.string ⟨#[]⟩) 1 16 Tryd.underlying26 hi hz0 hz1 hz2 rfl (by decide) _ _ _ rfl (World.ownsRow.alloc (unhide HO1) _) ⟨w1.heap.size, 0, none⟩ 1 1 [.string ⟨#[63]⟩] rfl rfl (World.news_of_block (heap_alloc_new _ _)) ?c2 ?c3 ?c4 ?c5 ?c6 (w1.heap.size + 1) ?c7 ?_)
        case c2 => intro u hu; simp at hu; subst hu; rfl
        case c3 => omega
        case c4 => exact unhide HM1
        case c5 => exact unhide HM2
        case c6 => have := (unhide HB1).size; simp; omega
        case c7 => simp
        intro g2 cap2 w3 own3 hgrow3 hat3 hlt3
        have hb3 : Below w.heap.size w w3 := ((unhide HB1).alloc (unhide HB1).size _).grown hgrow3 (by have := (unhide HB1).size; simp; omega) (fun z hz => ((unhide HO1).lt z hz).1)
        have OW := hide own3; have HB3 := hide hb3
        clear own3 hgrow3 hat3 hlt3 hb3
        go_wp2
        go_roundw
        case rel =>
          refine ⟨rest, dn ++ [q], rfl, by have := unhide HEX; have := unhide HST; omega, unhide HDN, ?_, unhide HB3⟩
          have := unhide OW
          rw [List.length_append, List.length_singleton, cellsL, List.map_append, List.map_cons, List.map_nil, unhide HR]
          exact this
        case measure => have := unhide HEX; have := unhide HNZ; simp only []; omega
      · have t1 : ((r : Int) == 65533) = false := by rw [beq_eq_false_iff_ne]; omega
        have HR := hide (show runeS q = ⟨#[32]⟩ by rw [h3]; rfl)
        clear h1 h3 HQ
        rcases h2 with h2 | h2
        · have t3 : (r : Int) < 32 := by omega
          clear h2
          go_wp2_with (at_builtin; refine wpList_append_lies _ rfl _ _ 26 rfl w.heap.size 9 i0 (.string ⟨#[]⟩) 1 16 Tryd.underlying26 hi hz0 hz1 hz2 rfl (by decide) _ _ _ rfl (World.ownsRow.alloc (unhide HO1) _) ⟨w1.heap.size, 0, none⟩ 1 1 [.string ⟨#[32]⟩] rfl rfl (World.news_of_block (heap_alloc_new _ _)) ?c2 ?c3 ?c4 ?c5 ?c6 (w1.heap.size + 1) ?c7 ?_)
          case c2 => intro u hu; simp at hu; subst hu; rfl
          case c3 => omega
          case c4 => exact unhide HM1
          case c5 => exact unhide HM2
          case c6 => have := (unhide HB1).size; simp; omega
          case c7 => simp
          intro g2 cap2 w3 own3 hgrow3 hat3 hlt3
          have hb3 : Below w.heap.size w w3 := ((unhide HB1).alloc (unhide HB1).size _).grown hgrow3 (by have := (unhide HB1).size; simp; omega) (fun z hz => ((unhide HO1).lt z hz).1)
          have OW := hide own3; have HB3 := hide hb3
          clear own3 hgrow3 hat3 hlt3 hb3
          go_wp2
          go_roundw
          case rel =>
            refine ⟨rest, dn ++ [q], rfl, by have := unhide HEX; have := unhide HST; omega, unhide HDN, ?_, unhide HB3⟩
            have := unhide OW
            rw [List.length_append, List.length_singleton, cellsL, List.map_append, List.map_cons, List.map_nil, unhide HR]
            exact this
          case measure => have := unhide HEX; have := unhide HNZ; simp only []; omega
        · have t3 : ¬ (r : Int) < 32 := by omega
          have t4 : ((r : Int) == 127) = true := by rw [beq_iff_eq]; omega
          clear h2
          go_wp2_with (at_builtin; refine wpList_append_lies _ rfl _ _ 26 rfl w.heap.size 9 i0 (.string ⟨#[]⟩) 1 16 Tryd.underlying26 hi hz0 hz1 hz2 rfl (by decide) _ _ _ rfl (World.ownsRow.alloc (unhide HO1) _) ⟨w1.heap.size, 0, none⟩ 1 1 [.string ⟨#[32]⟩] rfl rfl (World.news_of_block (heap_alloc_new _ _)) ?c2 ?c3 ?c4 ?c5 ?c6 (w1.heap.size + 1) ?c7 ?_)
          case c2 => intro u hu; simp at hu; subst hu; rfl
          case c3 => omega
          case c4 => exact unhide HM1
          case c5 => exact unhide HM2
          case c6 => have := (unhide HB1).size; simp; omega
          case c7 => simp
          intro g2 cap2 w3 own3 hgrow3 hat3 hlt3
          have hb3 : Below w.heap.size w w3 := ((unhide HB1).alloc (unhide HB1).size _).grown hgrow3 (by have := (unhide HB1).size; simp; omega) (fun z hz => ((unhide HO1).lt z hz).1)
          have OW := hide own3; have HB3 := hide hb3
          clear own3 hgrow3 hat3 hlt3 hb3
          go_wp2
          go_roundw
          case rel =>
            refine ⟨rest, dn ++ [q], rfl, by have := unhide HEX; have := unhide HST; omega, unhide HDN, ?_, unhide HB3⟩
            have := unhide OW
            rw [List.length_append, List.length_singleton, cellsL, List.map_append, List.map_cons, List.map_nil, unhide HR]
            exact this
          case measure => have := unhide HEX; have := unhide HNZ; simp only []; omega
      · have t3 : ¬ (r : Int) < 32 := by omega
        have t4 : ((r : Int) == 127) = false := by rw [beq_eq_false_iff_ne]; omega
        have HR := hide h3
        by_cases h4 : r = 65533
        · have t1 : ((r : Int) == 65533) = true := by rw [beq_iff_eq]; omega
          have t2 : ((n : Int) == 1) = false := by rw [beq_eq_false_iff_ne]; omega
          clear h1 h2 h3 h4 HQ
          go_wp2_with (at_builtin; refine wpList_append_lies _ rfl _ _ 26 rfl w.heap.size 9 i0 (.string ⟨#[]⟩) 1 16 Tryd.underlying26 hi hz0 hz1 hz2 rfl (by decide) _ _ _ rfl (World.ownsRow.alloc (unhide HO1) _) ⟨w1.heap.size, 0, none⟩ 1 1 [.string first] rfl rfl (World.news_of_block (heap_alloc_new _ _)) ?c2 ?c3 ?c4 ?c5 ?c6 (w1.heap.size + 1) ?c7 ?_)
          case c2 => intro u hu; simp at hu; subst hu; rfl
          case c3 => omega
          case c4 => exact unhide HM1
          case c5 => exact unhide HM2
          case c6 => have := (unhide HB1).size; simp; omega
          case c7 => simp
          intro g2 cap2 w3 own3 hgrow3 hat3 hlt3
          have hb3 : Below w.heap.size w w3 := ((unhide HB1).alloc (unhide HB1).size _).grown hgrow3 (by have := (unhide HB1).size; simp; omega) (fun z hz => ((unhide HO1).lt z hz).1)
          have OW := hide own3; have HB3 := hide hb3
          clear own3 hgrow3 hat3 hlt3 hb3
          go_wp2
          go_roundw
          case rel =>
            refine ⟨rest, dn ++ [q], rfl, by have := unhide HEX; have := unhide HST; omega, unhide HDN, ?_, unhide HB3⟩
            have := unhide OW
            rw [List.length_append, List.length_singleton, cellsL, List.map_append, List.map_cons, List.map_nil, unhide HR]
            exact this
          case measure => have := unhide HEX; have := unhide HNZ; simp only []; omega
        · have t1 : ((r : Int) == 65533) = false := by rw [beq_eq_false_iff_ne]; omega
          clear h1 h2 h3 h4 HQ
          go_wp2_with (at_builtin; refine wpList_append_lies _ rfl _ _ 26 rfl w.heap.size 9 i0 (.string ⟨#[]⟩) 1 16 Tryd.underlying26 hi hz0 hz1 hz2 rfl (by decide) _ _ _ rfl (World.ownsRow.alloc (unhide HO1) _) ⟨w1.heap.size, 0, none⟩ 1 1 [.string first] rfl rfl (World.news_of_block (heap_alloc_new _ _)) ?c2 ?c3 ?c4 ?c5 ?c6 (w1.heap.size + 1) ?c7 ?_)
          case c2 => intro u hu; simp at hu; subst hu; rfl
          case c3 => omega
          case c4 => exact unhide HM1
          case c5 => exact unhide HM2
          case c6 => have := (unhide HB1).size; simp; omega
          case c7 => simp
          intro g2 cap2 w3 own3 hgrow3 hat3 hlt3
          have hb3 : Below w.heap.size w w3 := ((unhide HB1).alloc (unhide HB1).size _).grown hgrow3 (by have := (unhide HB1).size; simp; omega) (fun z hz => ((unhide HO1).lt z hz).1)
          have OW := hide own3; have HB3 := hide hb3
          clear own3 hgrow3 hat3 hlt3 hb3
          go_wp2
          go_roundw
          case rel =>
            refine ⟨rest, dn ++ [q], rfl, by have := unhide HEX; have := unhide HST; omega, unhide HDN, ?_, unhide HB3⟩
            have := unhide OW
            rw [List.length_append, List.length_singleton, cellsL, List.map_append, List.map_cons, List.map_nil, unhide HR]
            exact this
          case measure => have := unhide HEX; have := unhide HNZ; simp only []; omega
end Go.Proofs.YtmbjknffmaphbaeDoor
