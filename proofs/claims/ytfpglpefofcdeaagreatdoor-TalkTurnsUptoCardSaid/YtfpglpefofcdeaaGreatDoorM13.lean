/- same of two rows of fields: are they alike? -/
import Derived.Test.YtfpglpefofcdeaaGreatDoorM12
namespace Go.Proofs.YtfpglpefofcdeaaGreatDoor
open Go.RowKit
set_option linter.unusedVariables false

theorem take_eq_succ (a b : List (Int × Int)) (k : Nat) (ha : k < a.length) (hb : k < b.length) (h : a.take k = b.take k) : a.take (k + 1) = b.take (k + 1) ↔ a.getD k (0, 0) = b.getD k (0, 0) := by
  have ea := List.take_succ_eq_append_getElem ha
  have eb := List.take_succ_eq_append_getElem hb
  have ga : a.getD k (0, 0) = a[k] := by simp [List.getD_eq_getElem?_getD, List.getElem?_eq_getElem ha]
  have gb : b.getD k (0, 0) = b[k] := by simp [List.getD_eq_getElem?_getD, List.getElem?_eq_getElem hb]
  rw [ea, eb, h, ga, gb]
  simp only [List.append_cancel_left_eq, List.cons.injEq, and_true]

set_option maxRecDepth 1000000 in
set_option maxHeartbeats 4000000 in
theorem sameF_any (fs gs : List (Int × Int)) (ao bo : Option Addr) (c d : Nat) (w : World) (hf : FRow w ao fs) (hg : FRow w bo gs) (hl : (fs.length : Int) ≤ 9000000000000) (hl2 : (gs.length : Int) ≤ 9000000000000) :
    Calls Tryz.prog 82 #[.slice ao fs.length c, .slice bo gs.length d] w fun e w' => e = .returned (.bool (decide (fs = gs))) ∧ Below w.heap.size w w' := by
  by_cases hlen : fs.length = gs.length
  · have t1 : ((fs.length : Int) != (gs.length : Int)) = false := by rw [bne_eq_false_iff_eq]; omega
    have hle : fs.length ≤ gs.length := by omega
    have hge : gs.length ≤ fs.length := by omega
    have HL := hide hlen
    clear hlen
    go_enter Tryz.func82, Tryz.ntmps82
    go_wp2
    go_loopw [13] (fun i wr => ∃ k : Nat, k ≤ fs.length ∧ i = .int .i64 k ∧ Hid (fs.take k = gs.take k) ∧ ∃ q, wr = w.drewN q) (fun i _ => fs.length - (intOf i).toNat)
    case atStart => exact ⟨0, Nat.zero_le _, rfl, hide rfl, 0, rfl⟩
    case round =>
      obtain ⟨k, hk, rfl, hsame, q, rfl⟩ := hrel
      by_cases hlt : k < fs.length
      · rcases hf with hnil | ⟨b, off, rfl, hb, hc⟩
        · rw [hnil] at hlt; simp at hlt
        rcases hg with hnil | ⟨b', off', rfl, hb', hc'⟩
        · have : gs.length = 0 := by rw [hnil]; rfl
          omega
        obtain ⟨c0, c1⟩ := hc k hlt
        obtain ⟨c2, c3⟩ := hc' k (by omega)
        have hiff := take_eq_succ fs gs k hlt (by omega) (unhide hsame)
        have hki : (k : Int) < (fs.length : Int) := by omega
        have hki2 : (k : Int) < (gs.length : Int) := by omega
        generalize fs.getD k (0, 0) = f at *
        generalize gs.getD k (0, 0) = g at *
        obtain ⟨ft, fl⟩ := f
        obtain ⟨gt, gl⟩ := g
        simp only at c0 c1 c2 c3
        have HI := hide hiff
        clear hc hc' hiff
        by_cases h1 : ft = gt
        · subst h1
          by_cases h2 : fl = gl
          · subst h2
            go_wp2_with fail
            go_quiet (fail)
            go_wp2
            go_roundw
            case rel => exact ⟨k + 1, by omega, by go_num, hide ((unhide HI).2 (by first | rfl | trivial)), _, rfl⟩
            case measure => simp [intOf]; omega
          · have hne : ¬ fs = gs := fun e => by
              rw [e] at HI
              have := (unhide HI).1 rfl
              simp at this
              exact h2 this
            have HN := hide hne
            clear hne
            go_wp2_with fail
            go_quiet (fail)
            go_wp2
            go_ret
            exact ⟨ret_bool (decide_eq_false (unhide HN)).symm, below_drewN (below_drewN (Below.refl _ _) _) _⟩
        · have hne : ¬ fs = gs := fun e => by
            rw [e] at HI
            have := (unhide HI).1 rfl
            simp at this
            exact h1 this.1
          have HN := hide hne
          clear hne
          go_wp2_with fail
          go_quiet (fail)
          go_wp2
          go_ret
          exact ⟨ret_bool (decide_eq_false (unhide HN)).symm, below_drewN (below_drewN (Below.refl _ _) _) _⟩
      · have heq : fs = gs := by
          have := unhide hsame
          rw [List.take_of_length_le (by omega), List.take_of_length_le (by omega)] at this
          exact this
        have HQ := hide heq
        clear heq hsame
        go_wp2
        go_ret
        exact ⟨ret_bool (decide_eq_true (unhide HQ)).symm, below_drewN (Below.refl _ _) _⟩
  · have t1 : ((fs.length : Int) != (gs.length : Int)) = true := by rw [bne_iff_ne]; omega
    have hne : ¬ fs = gs := fun e => hlen (by rw [e])
    have HN := hide hne
    clear hne hlen
    go_enter Tryz.func82, Tryz.ntmps82
    go_wp2
    go_ret
    exact ⟨ret_bool (decide_eq_false (unhide HN)).symm, Below.refl _ _⟩
end Go.Proofs.YtfpglpefofcdeaaGreatDoor
namespace Go.Proofs.YtfpglpefofcdeaaGreatDoor
open Go.RowKit
set_option linter.unusedVariables false

/-- the field at the beginning, and what is behind it -/
def fieldAt (l : List UInt8) : Option ((Int × Int) × List UInt8) :=
  if tagSz l < l.length ∧ validB (valN (l.take (tagSz l))) = true ∧ madeB (valN (l.take (tagSz l))) = false then
    some (((valN (l.take (tagSz l)) : Int), ((l.getD (tagSz l) 0).toNat : Int)), l.drop (tagSz l + 1)) else none
/-- a row that is read, of at most n fields -/
def parseL : Nat → List UInt8 → Option (List (Int × Int))
  | 0, l => if l = [] then some [] else none
  | n + 1, l => if l = [] then some [] else match fieldAt l with | none => none | some (f, r) => (parseL n r).map (f :: ·)
def parsed (l : List UInt8) : List (Int × Int) := (parseL 100 l).getD []
def parseE (l : List UInt8) : Int := if (parseL 100 l).isSome then 0 else 1
def cellsF (fs : List (Int × Int)) : List Value := fs.flatMap fun f => [.int .i64 f.1, .int .i64 f.2]
theorem cellsF_snoc (fs : List (Int × Int)) (f : Int × Int) : cellsF (fs ++ [f]) = cellsF fs ++ [.int .i64 f.1, .int .i64 f.2] := by simp [cellsF]
theorem infoField : (Tryz.prog.info? 121).map (fun i => (i.zero, i.size, i.bytes)) = some (some (.agg #[.int .i64 0, .int .i64 0]), 2, 16) := by kernel_rfl
def strLen : Value → Nat | .string s => s.size | _ => 0
/-- where the reading stands -/
def ParseAt (L : List UInt8) (acc : List (Int × Int)) (l : List UInt8) : Prop := parseL 100 L = (parseL (100 - acc.length) l).map (acc ++ ·)

theorem drop_extract (s : ByteArray) (k : Nat) : (s.extract k s.size).data.toList = s.data.toList.drop k := by
  rw [ByteArray.data_extract, Array.toList_extract, List.extract_eq_take_drop]
  exact List.take_of_length_le (by simp)

theorem parse_stop (n : Nat) (l : List UInt8) (hl : l ≠ []) (h : fieldAt l = none ∨ n = 0) : parseL n l = none := by
  cases n with
  | zero => unfold parseL; rw [if_neg hl]
  | succ n =>
    rcases h with h | h
    · unfold parseL; rw [if_neg hl, h]
    · omega
theorem parseE_none {l : List UInt8} (h : parseL 100 l = none) : parseE l = 1 := by unfold parseE; rw [h]; rfl
theorem parsed_none {l : List UInt8} (h : parseL 100 l = none) : parsed l = [] := by unfold parsed; rw [h]; rfl
theorem parseE_some {l : List UInt8} {fs : List (Int × Int)} (h : parseL 100 l = some fs) : parseE l = 0 := by unfold parseE; rw [h]; rfl
theorem parsed_some {l : List UInt8} {fs : List (Int × Int)} (h : parseL 100 l = some fs) : parsed l = fs := by unfold parsed; rw [h]; rfl

theorem ownsRow_two {wr : World} {base : Nat} {e : TypeId} {size : Nat} {v : Value} {n : Nat} {xs : List Value} (h : wr.ownsRow base e size v n xs) (q : Nat) (o : Obj) : ((wr.drewN q).alloc o).ownsRow base e size v n xs :=
  World.ownsRow.alloc (w := wr.drewN q) h o
theorem two_new' (w : World) (q : Nat) (x y : Value) (e : TypeId) : ∀ j u, [x, y][j]? = some u → ((w.drewN q).alloc (.cells #[x, y] e)).cell? ((⟨w.heap.size, 0, none⟩ : Addr).add j) = some u := two_new (w.drewN q) x y e

set_option maxRecDepth 1000000 in
set_option maxHeartbeats 4000000 in
theorem parseF_any (s : ByteArray) (w : World) (hs : s.size ≤ maxLen) :
    Calls Tryz.prog 94 #[.string s] w fun e w' => ∃ v, e = .returned (.tuple #[v, .int .i64 (parseE s.data.toList)]) ∧ w'.ownsRow w.heap.size 121 2 v (parsed s.data.toList).length (cellsF (parsed s.data.toList)) ∧ Below w.heap.size w w' := by
  obtain ⟨i0, hi, hz0, hz1, hz2⟩ := info_parts infoField
  go_enter Tryz.func94, Tryz.ntmps94
  go_wp2
  go_loopw [0, 4] (fun sv v wr => ∃ (s' : ByteArray) (acc : List (Int × Int)), acc.length ≤ 100 ∧ s'.size ≤ maxLen ∧ sv = .string s' ∧ wr.ownsRow w.heap.size 121 2 v acc.length (cellsF acc) ∧ ParseAt s.data.toList acc s'.data.toList ∧ Below w.heap.size w wr) (fun sv _ _ => strLen sv)
  case atStart => exact ⟨s, [], by simp, hs, rfl, World.ownsRow_nil _ _ _ _, by simp [ParseAt], Below.refl _ _⟩
  case round =>
    obtain ⟨s', acc, hacc, hs', rfl, hown, hpa, hbw⟩ := hrel
    by_cases hemp : s'.data.toList = []
    · have he : s'.toList.isEmpty = true := by rw [Lib.toList_data, hemp]; rfl
      have hres : parseL 100 s.data.toList = some acc := by
        have := hpa
        unfold ParseAt at this
        rw [hemp] at this
        rw [this]
        cases 100 - acc.length <;> simp [parseL]
      have HR := hide hres
      clear hres hpa hemp
      go_wp2
      go_ret2
      exact ⟨_, by rw [parseE_some (unhide HR)]; rfl, by rw [parsed_some (unhide HR)]; exact hown, hbw⟩
    · have he : s'.toList.isEmpty = false := by rw [Lib.toList_data]; simpa using hemp
      have hnone : fieldAt s'.data.toList = none ∨ acc.length = 100 → parseL 100 s.data.toList = none := fun h => by
        have := hpa
        unfold ParseAt at this
        rw [this, parse_stop _ _ hemp (by rcases h with h | h; exact .inl h; exact .inr (by omega))]
        rfl
      have hpos : 0 < s'.size := by
        have hl0 : s'.data.toList.length = s'.size := by simp
        rcases Nat.eq_zero_or_pos s'.size with h | h
        · exact absurd (List.length_eq_zero_iff.1 (hl0.trans h)) hemp
        · exact h
      have hs9 := hs'
      unfold maxLen at hs9
      by_cases hk : s'.size < tagSz s'.data.toList
      · have HR := hide (hnone (.inl (by unfold fieldAt; rw [if_neg (by intro h; have := h.1; simp at this; omega)])))
        have N1 := hide (fun w => cutTag_no s' w hs' hk)
        clear hnone hpa hemp hk
        go_wp2_with fail
        refine (unhide N1 _).mono ?_
        rintro e w2 ⟨rfl, hw2⟩
        subst hw2
        go_wp2
        go_ret2
        exact ⟨_, by rw [parseE_none (unhide HR)]; rfl, by rw [parsed_none (unhide HR)]; exact World.ownsRow_nil _ _ _ _, hbw⟩
      · have hk' : tagSz s'.data.toList ≤ s'.size := by omega
        have h13 := tagSz_le s'.data.toList
        have n1 := fun w => cutTag_yes s' w hs' hk'
        have hm6 := valN_take3 s' (tagSz s'.data.toList) h13.2
        have hrl := drop_extract s' (tagSz s'.data.toList)
        have hrs : (s'.extract (tagSz s'.data.toList) s'.size).size = s'.size - tagSz s'.data.toList := by rw [ByteArray.size_extract]; omega
        have n2 := fun w h => made_any (valN (s'.data.toList.take (tagSz s'.data.toList))) w hm6 h
        have hfa : fieldAt s'.data.toList = if tagSz s'.data.toList < s'.data.toList.length ∧ validB (valN (s'.data.toList.take (tagSz s'.data.toList))) = true ∧ madeB (valN (s'.data.toList.take (tagSz s'.data.toList))) = false then some (((valN (s'.data.toList.take (tagSz s'.data.toList)) : Int), ((s'.data.toList.getD (tagSz s'.data.toList) 0).toNat : Int)), s'.data.toList.drop (tagSz s'.data.toList + 1)) else none := rfl
        generalize tagSz s'.data.toList = kk at *
        generalize valN (s'.data.toList.take kk) = m at *
        generalize hr0 : s'.extract kk s'.size = r at *
        have hlen : s'.data.toList.length = s'.size := by simp
        rw [hlen] at hfa
        cases hv : validB (m : Int) with
        | false =>
          have HR := hide (hnone (.inl (by rw [hfa, if_neg (by rw [hv]; simp)])))
          rw [hv] at n1
          have N1 := hide n1
          clear hnone hpa hemp hk n1 n2 hfa hrl hrs hr0 hlen hm6
          go_wp2_with fail
          refine (unhide N1 _).mono ?_
          rintro e w2 ⟨rfl, q, hw2⟩
          subst hw2
          go_wp2
          go_ret2
          exact ⟨_, by rw [parseE_none (unhide HR)]; rfl, by rw [parsed_none (unhide HR)]; exact World.ownsRow_nil _ _ _ _, below_drewN hbw _⟩
        | true =>
          rw [hv] at n1
          replace n2 := fun w => n2 w hv
          cases hmd : madeB m with
          | true =>
            have HR := hide (hnone (.inl (by rw [hfa, if_neg (by rw [hmd]; simp)])))
            rw [hmd] at n2
            have N1 := hide n1; have N2 := hide n2
            clear hnone hpa hemp hk n1 n2 hfa hrl hrs hr0 hlen hm6
            go_wp2_with fail
            refine (unhide N1 _).mono ?_
            rintro e w2 ⟨rfl, q, hw2⟩
            subst hw2
            go_wp2_with fail
            refine (unhide N2 _).mono ?_
            rintro e w3 ⟨rfl, hw3⟩
            subst hw3
            go_wp2
            go_ret2
            exact ⟨_, by rw [parseE_none (unhide HR)]; rfl, by rw [parsed_none (unhide HR)]; exact World.ownsRow_nil _ _ _ _, below_drewN hbw _⟩
          | false =>
            rw [hmd] at n2
            have N1 := hide n1; have N2 := hide n2
            by_cases hre : kk = s'.size
            · have HR := hide (hnone (.inl (by rw [hfa, if_neg (by omega)])))
              have hre' : r.toList.isEmpty = true := by rw [Lib.toList_data, hrl, List.drop_of_length_le (by omega)]; rfl
              clear hnone hpa hemp hk n1 n2 hfa hrl hrs hr0 hlen hm6
              go_wp2_with fail
              refine (unhide N1 _).mono ?_
              rintro e w2 ⟨rfl, q, hw2⟩
              subst hw2
              go_wp2_with fail
              refine (unhide N2 _).mono ?_
              rintro e w3 ⟨rfl, hw3⟩
              subst hw3
              go_wp2
              go_ret2
              exact ⟨_, by rw [parseE_none (unhide HR)]; rfl, by rw [parsed_none (unhide HR)]; exact World.ownsRow_nil _ _ _ _, below_drewN hbw _⟩
            · have hrp : 0 < r.size := by omega
              have hre' : r.toList.isEmpty = false := by
                rw [Lib.toList_data]
                have : r.data.toList.length = r.size := by simp
                cases hq : r.data.toList with
                | nil => rw [hq] at this; simp at this; omega
                | cons a b => rfl
              have hlv : ∃ ao cp, u4 = .slice ao acc.length cp := by
                rcases hown.2 with ⟨h, h0⟩ | ⟨g, cp, cur, h, _⟩
                · exact ⟨none, 0, by rw [h, h0]⟩
                · exact ⟨_, _, h⟩
              obtain ⟨ao, cp, hu4⟩ := hlv
              by_cases h100 : acc.length = 100
              · have HR := hide (hnone (.inr h100))
                have t9 : ((acc.length : Int) == 100) = true := by rw [h100]; rfl
                subst hu4
                clear hnone hpa hemp hk n1 n2 hfa hrl hrs hr0 hlen hm6 h100
                go_wp2_with fail
                refine (unhide N1 _).mono ?_
                rintro e w2 ⟨rfl, q, hw2⟩
                subst hw2
                go_wp2_with fail
                refine (unhide N2 _).mono ?_
                rintro e w3 ⟨rfl, hw3⟩
                subst hw3
                go_wp2
                go_ret2
                exact ⟨_, by rw [parseE_none (unhide HR)]; rfl, by rw [parsed_none (unhide HR)]; exact World.ownsRow_nil _ _ _ _, below_drewN hbw _⟩
              · have t9 : ((acc.length : Int) == 100) = false := by simp; omega
                have g0 := get_byte r 0
                have hb0 : byteAt r 0 = (s'.data.toList.getD kk 0).toNat := by
                  unfold byteAt
                  rw [hrl]
                  simp [List.getD_eq_getElem?_getD]
                have hnext : ParseAt s.data.toList (acc ++ [((m : Int), (byteAt r 0 : Int))]) (r.extract 1 r.size).data.toList := by
                  have := hpa
                  unfold ParseAt at this ⊢
                  rw [this, drop_extract, hrl, List.drop_drop, hb0]
                  obtain ⟨n, hn⟩ : ∃ n, 100 - acc.length = n + 1 := ⟨99 - acc.length, by omega⟩
                  rw [hn, List.length_append, show 100 - (acc.length + [((m : Int), ((s'.data.toList.getD kk 0).toNat : Int))].length) = n by simp; omega]
                  rw [parseL, if_neg hemp, hfa, if_pos ⟨by omega, hv, hmd⟩]
                  simp only [Option.map_map]
                  congr 1
                  funext x
                  simp
                have hsz2 : (r.extract 1 r.size).size < s'.size := by rw [ByteArray.size_extract]; omega
                have lb := byteAt_lt r 0
                have hrm : r.size ≤ 9223372036854775807 := by omega
                generalize byteAt r 0 = y at *
                have HP := hide hpa; have HX := hide hnext; have HZ := hide hsz2
                have hs2 := fun wx => run_slice_string_l (P := Tryz.prog) wx 9 r Tryz.underlying9 .i64 (1 : Int) (by omega) (by omega)
                subst hu4
                clear hnone hpa hemp hk n1 n2 hfa hrl hrs hr0 hlen hm6 hnext hb0 hsz2
                go_wp2_with fail
                refine (unhide N1 _).mono ?_
                rintro e w2 ⟨rfl, q, hw2⟩
                subst hw2
                go_wp2_with fail
                refine (unhide N2 _).mono ?_
                rintro e w3 ⟨rfl, hw3⟩
                subst hw3
                go_wp2_with (at_builtin; refine wpList_append_own _ rfl _ _ 31 rfl w.heap.size 121 i0 (.agg #[.int .i64 0, .int .i64 0]) 2 16 Tryz.underlying31 hi hz0 hz1 hz2 rfl (by decide) _ _ _ rfl (ownsRow_two hown _ _) ⟨wr.heap.size, 0, none⟩ 1 1 [.int .i64 (m : Int), .int .i64 (y : Int)] rfl rfl (two_new' _ _ _ _ _) ?c2 ?c3 ?c4 ?c5 ?_)
                case c2 => intro u hu; simp at hu; rcases hu with rfl | rfl <;> rfl
                case c3 => unfold maxLen; omega
                case c4 => omega
                case c5 => have := hbw.size; simp; omega
                intro v' w4 hown' hgrow _
                have hb4 : Below w.heap.size w w4 := ((below_drewN hbw q).alloc hbw.size _).grown hgrow (by have := hbw.size; simp; omega) (fun q hq => (hown.lt q hq).1)
                have hown4 : w4.ownsRow w.heap.size 121 2 v' (acc ++ [((m : Int), (y : Int))]).length (cellsF (acc ++ [((m : Int), (y : Int))])) := by
                  rw [cellsF_snoc, List.length_append]
                  exact hown'
                clear hown' hgrow hown hbw
                go_wp2
                go_roundw
                case rel => exact ⟨r.extract 1 r.size, acc ++ [((m : Int), (y : Int))], by rw [List.length_append]; simp; omega, by have := unhide HZ; omega, rfl, hown4, unhide HX, hb4⟩
                case measure => exact unhide HZ
end Go.Proofs.YtfpglpefofcdeaaGreatDoor
namespace Go.Proofs.YtfpglpefofcdeaaGreatDoor
open Go.RowKit
set_option linter.unusedVariables false

/-- are the first n bytes a tag? -/
def goodB (l : List UInt8) (n : Nat) : Bool := validB (valN (l.take n)) && decide (tagLen (valN (l.take n)) = n)
theorem valN_two (a b : UInt8) : valN [a, b] = a.toNat * 256 + b.toNat := by simp [valN]
theorem valN_three (a b c : UInt8) : valN [a, b, c] = (a.toNat * 256 + b.toNat) * 256 + c.toNat := by simp [valN]
theorem valN_one (a : UInt8) : valN [a] = a.toNat := by simp [valN]

theorem validB_iff (t : Nat) : validB (t : Int) = true ↔ (1 ≤ t ∧ t < 256 ∧ t % 32 ≠ 31) ∨ (256 ≤ t ∧ t < 65536 ∧ t / 256 % 32 = 31 ∧ 31 ≤ t % 256 ∧ t % 256 ≤ 127) ∨ (65536 ≤ t ∧ t < 16777216 ∧ t / 65536 % 32 = 31 ∧ 129 ≤ t / 256 % 256 ∧ t % 256 ≤ 127) := by
  unfold validB
  split
  · simp; omega
  · split
    · simp; omega
    · split
      · simp; omega
      · simp; omega
theorem tagLen_iff (t n : Nat) : tagLen t = n ↔ (t < 256 ∧ n = 1) ∨ (256 ≤ t ∧ t < 65536 ∧ n = 2) ∨ (65536 ≤ t ∧ n = 3) := by
  unfold tagLen; split
  · omega
  · split <;> omega
theorem tagSz_one (a : UInt8) (n : Nat) : n = tagSz [a] ↔ (a.toNat % 32 = 31 ∧ n = 2) ∨ (a.toNat % 32 ≠ 31 ∧ n = 1) := by
  simp only [tagSz]; split <;> omega
theorem tagSz_more (a b : UInt8) (r : List UInt8) (n : Nat) : n = tagSz (a :: b :: r) ↔ (a.toNat % 32 = 31 ∧ b.toNat < 128 ∧ n = 2) ∨ (a.toNat % 32 = 31 ∧ 128 ≤ b.toNat ∧ n = 3) ∨ (a.toNat % 32 ≠ 31 ∧ n = 1) := by
  simp only [tagSz]; split
  · split <;> omega
  · omega

theorem good_iff (l : List UInt8) (n : Nat) (h1 : 1 ≤ n) (h3 : n ≤ 3) (hl : n ≤ l.length) : goodB l n = true ↔ n = tagSz l ∧ validB (valN (l.take n)) = true := by
  unfold goodB
  rw [Bool.and_eq_true, decide_eq_true_iff, validB_iff, tagLen_iff]
  match l, hl with
  | [], hl => simp at hl; omega
  | [a], hl =>
    have : n = 1 := by simp at hl; omega
    subst this
    have la := a.toNat_lt
    rw [show [a].take 1 = [a] by rfl, valN_one, tagSz_one]
    omega
  | a :: b :: r, hl =>
    have la := a.toNat_lt
    have lb := b.toNat_lt
    rw [tagSz_more]
    have hn : n = 1 ∨ n = 2 ∨ n = 3 := by omega
    rcases hn with rfl | rfl | rfl
    · rw [show (a :: b :: r).take 1 = [a] by rfl, valN_one]; omega
    · rw [show (a :: b :: r).take 2 = [a, b] by simp, valN_two]
      generalize a.toNat = x at *
      generalize b.toNat = y at *
      have e1 : (x * 256 + y) / 256 = x := by omega
      have e2 : (x * 256 + y) % 256 = y := by omega
      rw [e1, e2]; omega
    · match r, hl with
      | [], hl => simp at hl
      | c :: r, hl =>
        have lc := c.toNat_lt
        rw [show (a :: b :: c :: r).take 3 = [a, b, c] by simp, valN_three]
        generalize a.toNat = x at *
        generalize b.toNat = y at *
        generalize c.toNat = z at *
        have e1 : ((x * 256 + y) * 256 + z) / 65536 = x := by omega
        have e2 : ((x * 256 + y) * 256 + z) % 256 = z := by omega
        have e3 : ((x * 256 + y) * 256 + z) / 256 % 256 = y := by omega
        rw [e1, e2, e3]; omega

/-- a tag's own text begins with the tag, and no more of it -/
theorem tag_text_back (t : Nat) (r : List UInt8) (hv : validB (t : Int) = true) (bs : List UInt8) (hb : bs.length = tagLen t) (hval : valN bs = t) :
    tagSz (bs ++ r) = tagLen t ∧ (bs ++ r).take (tagLen t) = bs := by
  have hk : (bs ++ r).take (tagLen t) = bs := by rw [← hb]; exact List.take_left
  have h13 := tagLen_le t
  have := (good_iff (bs ++ r) (tagLen t) h13.1 h13.2 (by simp; omega)).1 (by unfold goodB; rw [hk, hval, hv]; simp)
  exact ⟨this.1.symm, hk⟩
end Go.Proofs.YtfpglpefofcdeaaGreatDoor
