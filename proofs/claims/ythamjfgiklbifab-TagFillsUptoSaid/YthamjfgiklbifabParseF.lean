/- ParseFields of the program. -/
import Derived.Test.YthamjfgiklbifabSameF
namespace Go.Proofs.Ythamjfgiklbifab
open Go.RowKit
set_option linter.unusedVariables false

/-- the field at the beginning, and what is behind it -/
def fieldAt (l : List UInt8) : Option ((Int × Int) × List UInt8) :=
  if tagSz l < l.length ∧ validB (valN (l.take (tagSz l))) = true ∧ madeB (valN (l.take (tagSz l))) = false then
    some (((valN (l.take (tagSz l)) : Int), ((l.getD (tagSz l) 0).toNat : Int)), l.drop (tagSz l + 1)) else none
/-- a row that is read, of at most n fields -/
def parseL : Nat → List UInt8 → Option (List (Int × Int))
  | 0, l => if l = [] then some [] else none
  | n + 1, l => if l = [] then some [] else match fieldAt l with | none => none | some (f, r) => (parseL n r).map (f :: ·)
def parsed (l : List UInt8) : List (Int × Int) := (parseL 100 l).getD []
def parseE (l : List UInt8) : Int := if (parseL 100 l).isSome then 0 else 1
def cellsF (fs : List (Int × Int)) : List Value := fs.flatMap fun f => [.int .i64 f.1, .int .i64 f.2]
theorem cellsF_snoc (fs : List (Int × Int)) (f : Int × Int) : cellsF (fs ++ [f]) = cellsF fs ++ [.int .i64 f.1, .int .i64 f.2] := by simp [cellsF]
theorem infoField : (Try.prog.info? 40).map (fun i => (i.zero, i.size, i.bytes)) = some (some (.agg #[.int .i64 0, .int .i64 0]), 2, 16) := by kernel_rfl
def strLen : Value → Nat | .string s => s.size | _ => 0
/-- where the reading stands -/
def ParseAt (L : List UInt8) (acc : List (Int × Int)) (l : List UInt8) : Prop := parseL 100 L = (parseL (100 - acc.length) l).map (acc ++ ·)

theorem drop_extract (s : ByteArray) (k : Nat) : (s.extract k s.size).data.toList = s.data.toList.drop k := by
  rw [ByteArray.data_extract, Array.toList_extract, List.extract_eq_take_drop]
  exact List.take_of_length_le (by simp)

theorem parse_stop (n : Nat) (l : List UInt8) (hl : l ≠ []) (h : fieldAt l = none ∨ n = 0) : parseL n l = none := by
  cases n with
  | zero => unfold parseL; rw [if_neg hl]
  | succ n =>
    rcases h with h | h
    · unfold parseL; rw [if_neg hl, h]
    · omega
theorem parseE_none {l : List UInt8} (h : parseL 100 l = none) : parseE l = 1 := by unfold parseE; rw [h]; rfl
theorem parsed_none {l : List UInt8} (h : parseL 100 l = none) : parsed l = [] := by unfold parsed; rw [h]; rfl
theorem parseE_some {l : List UInt8} {fs : List (Int × Int)} (h : parseL 100 l = some fs) : parseE l = 0 := by unfold parseE; rw [h]; rfl
theorem parsed_some {l : List UInt8} {fs : List (Int × Int)} (h : parseL 100 l = some fs) : parsed l = fs := by unfold parsed; rw [h]; rfl

theorem ownsRow_two {wr : World} {base : Nat} {e : TypeId} {size : Nat} {v : Value} {n : Nat} {xs : List Value} (h : wr.ownsRow base e size v n xs) (q : Nat) (o : Obj) : ((wr.drewN q).alloc o).ownsRow base e size v n xs :=
  World.ownsRow.alloc (w := wr.drewN q) h o
theorem two_new' (w : World) (q : Nat) (x y : Value) (e : TypeId) : ∀ j u, [x, y][j]? = some u → ((w.drewN q).alloc (.cells #[x, y] e)).cell? ((⟨w.heap.size, 0, none⟩ : Addr).add j) = some u := two_new (w.drewN q) x y e

set_option maxRecDepth 1000000 in
set_option maxHeartbeats 4000000 in
theorem parseF_any (s : ByteArray) (w : World) (hs : s.size ≤ maxLen) :
    Calls Try.prog 17 #[.string s] w fun e w' => ∃ v, e = .returned (.tuple #[v, .int .i64 (parseE s.data.toList)]) ∧ w'.ownsRow w.heap.size 40 2 v (parsed s.data.toList).length (cellsF (parsed s.data.toList)) ∧ Below w.heap.size w w' := by
  obtain ⟨i0, hi, hz0, hz1, hz2⟩ := info_parts infoField
  go_enter Try.func17, Try.ntmps17
  go_wp2
  go_loopw [0, 4] (fun sv v wr => ∃ (s' : ByteArray) (acc : List (Int × Int)), acc.length ≤ 100 ∧ s'.size ≤ maxLen ∧ sv = .string s' ∧ wr.ownsRow w.heap.size 40 2 v acc.length (cellsF acc) ∧ ParseAt s.data.toList acc s'.data.toList ∧ Below w.heap.size w wr) (fun sv _ _ => strLen sv)
  case atStart => exact ⟨s, [], by simp, hs, rfl, World.ownsRow_nil _ _ _ _, by simp [ParseAt], Below.refl _ _⟩
  case round =>
    obtain ⟨s', acc, hacc, hs', rfl, hown, hpa, hbw⟩ := hrel
    by_cases hemp : s'.data.toList = []
    · have he : s'.toList.isEmpty = true := by rw [Lib.toList_data, hemp]; rfl
      have hres : parseL 100 s.data.toList = some acc := by
        have := hpa
        unfold ParseAt at this
        rw [hemp] at this
        rw [this]
        cases 100 - acc.length <;> simp [parseL]
      have HR := hide hres
      clear hres hpa hemp
      go_wp2
      go_ret2
      exact ⟨_, by rw [parseE_some (unhide HR)]; rfl, by rw [parsed_some (unhide HR)]; exact hown, hbw⟩
    · have he : s'.toList.isEmpty = false := by rw [Lib.toList_data]; simpa using hemp
      have hnone : fieldAt s'.data.toList = none ∨ acc.length = 100 → parseL 100 s.data.toList = none := fun h => by
        have := hpa
        unfold ParseAt at this
        rw [this, parse_stop _ _ hemp (by rcases h with h | h; exact .inl h; exact .inr (by omega))]
        rfl
      have hpos : 0 < s'.size := by
        have hl0 : s'.data.toList.length = s'.size := by simp
        rcases Nat.eq_zero_or_pos s'.size with h | h
        · exact absurd (List.length_eq_zero_iff.1 (hl0.trans h)) hemp
        · exact h
      have hs9 := hs'
      unfold maxLen at hs9
      by_cases hk : s'.size < tagSz s'.data.toList
      · have HR := hide (hnone (.inl (by unfold fieldAt; rw [if_neg (by intro h; have := h.1; simp at this; omega)])))
        have N1 := hide (fun w => cutTag_no s' w hs' hk)
        clear hnone hpa hemp hk
        go_wp2_with fail
        refine (unhide N1 _).mono ?_
        rintro e w2 ⟨rfl, hw2⟩
        subst hw2
        go_wp2
        go_ret2
        exact ⟨_, by rw [parseE_none (unhide HR)]; rfl, by rw [parsed_none (unhide HR)]; exact World.ownsRow_nil _ _ _ _, hbw⟩
      · have hk' : tagSz s'.data.toList ≤ s'.size := by omega
        have h13 := tagSz_le s'.data.toList
        have n1 := fun w => cutTag_yes s' w hs' hk'
        have hm6 := valN_take3 s' (tagSz s'.data.toList) h13.2
        have hrl := drop_extract s' (tagSz s'.data.toList)
        have hrs : (s'.extract (tagSz s'.data.toList) s'.size).size = s'.size - tagSz s'.data.toList := by rw [ByteArray.size_extract]; omega
        have n2 := fun w h => made_any (valN (s'.data.toList.take (tagSz s'.data.toList))) w hm6 h
        have hfa : fieldAt s'.data.toList = if tagSz s'.data.toList < s'.data.toList.length ∧ validB (valN (s'.data.toList.take (tagSz s'.data.toList))) = true ∧ madeB (valN (s'.data.toList.take (tagSz s'.data.toList))) = false then some (((valN (s'.data.toList.take (tagSz s'.data.toList)) : Int), ((s'.data.toList.getD (tagSz s'.data.toList) 0).toNat : Int)), s'.data.toList.drop (tagSz s'.data.toList + 1)) else none := rfl
        generalize tagSz s'.data.toList = kk at *
        generalize valN (s'.data.toList.take kk) = m at *
        generalize hr0 : s'.extract kk s'.size = r at *
        have hlen : s'.data.toList.length = s'.size := by simp
        rw [hlen] at hfa
        cases hv : validB (m : Int) with
        | false =>
          have HR := hide (hnone (.inl (by rw [hfa, if_neg (by rw [hv]; simp)])))
          rw [hv] at n1
          have N1 := hide n1
          clear hnone hpa hemp hk n1 n2 hfa hrl hrs hr0 hlen hm6
          go_wp2_with fail
          refine (unhide N1 _).mono ?_
          rintro e w2 ⟨rfl, q, hw2⟩
          subst hw2
          go_wp2
          go_ret2
          exact ⟨_, by rw [parseE_none (unhide HR)]; rfl, by rw [parsed_none (unhide HR)]; exact World.ownsRow_nil _ _ _ _, below_drewN hbw _⟩
        | true =>
          rw [hv] at n1
          replace n2 := fun w => n2 w hv
          cases hmd : madeB m with
          | true =>
            have HR := hide (hnone (.inl (by rw [hfa, if_neg (by rw [hmd]; simp)])))
            rw [hmd] at n2
            have N1 := hide n1; have N2 := hide n2
            clear hnone hpa hemp hk n1 n2 hfa hrl hrs hr0 hlen hm6
            go_wp2_with fail
            refine (unhide N1 _).mono ?_
            rintro e w2 ⟨rfl, q, hw2⟩
            subst hw2
            go_wp2_with fail
            refine (unhide N2 _).mono ?_
            rintro e w3 ⟨rfl, hw3⟩
            subst hw3
            go_wp2
            go_ret2
            exact ⟨_, by rw [parseE_none (unhide HR)]; rfl, by rw [parsed_none (unhide HR)]; exact World.ownsRow_nil _ _ _ _, below_drewN hbw _⟩
          | false =>
            rw [hmd] at n2
            have N1 := hide n1; have N2 := hide n2
            by_cases hre : kk = s'.size
            · have HR := hide (hnone (.inl (by rw [hfa, if_neg (by omega)])))
              have hre' : r.toList.isEmpty = true := by rw [Lib.toList_data, hrl, List.drop_of_length_le (by omega)]; rfl
              clear hnone hpa hemp hk n1 n2 hfa hrl hrs hr0 hlen hm6
              go_wp2_with fail
              refine (unhide N1 _).mono ?_
              rintro e w2 ⟨rfl, q, hw2⟩
              subst hw2
              go_wp2_with fail
              refine (unhide N2 _).mono ?_
              rintro e w3 ⟨rfl, hw3⟩
              subst hw3
              go_wp2
              go_ret2
              exact ⟨_, by rw [parseE_none (unhide HR)]; rfl, by rw [parsed_none (unhide HR)]; exact World.ownsRow_nil _ _ _ _, below_drewN hbw _⟩
            · have hrp : 0 < r.size := by omega
              have hre' : r.toList.isEmpty = false := by
                rw [Lib.toList_data]
                have : r.data.toList.length = r.size := by simp
                cases hq : r.data.toList with
                | nil => rw [hq] at this; simp at this; omega
                | cons a b => rfl
              have hlv : ∃ ao cp, u4 = .slice ao acc.length cp := by
                rcases hown.2 with ⟨h, h0⟩ | ⟨g, cp, cur, h, _⟩
                · exact ⟨none, 0, by rw [h, h0]⟩
                · exact ⟨_, _, h⟩
              obtain ⟨ao, cp, hu4⟩ := hlv
              by_cases h100 : acc.length = 100
              · have HR := hide (hnone (.inr h100))
                have t9 : ((acc.length : Int) == 100) = true := by rw [h100]; rfl
                subst hu4
                clear hnone hpa hemp hk n1 n2 hfa hrl hrs hr0 hlen hm6 h100
                go_wp2_with fail
                refine (unhide N1 _).mono ?_
                rintro e w2 ⟨rfl, q, hw2⟩
                subst hw2
                go_wp2_with fail
                refine (unhide N2 _).mono ?_
                rintro e w3 ⟨rfl, hw3⟩
                subst hw3
                go_wp2
                go_ret2
                exact ⟨_, by rw [parseE_none (unhide HR)]; rfl, by rw [parsed_none (unhide HR)]; exact World.ownsRow_nil _ _ _ _, below_drewN hbw _⟩
              · have t9 : ((acc.length : Int) == 100) = false := by simp; omega
                have g0 := get_byte r 0
                have hb0 : byteAt r 0 = (s'.data.toList.getD kk 0).toNat := by
                  unfold byteAt
                  rw [hrl]
                  simp [List.getD_eq_getElem?_getD]
                have hnext : ParseAt s.data.toList (acc ++ [((m : Int), (byteAt r 0 : Int))]) (r.extract 1 r.size).data.toList := by
                  have := hpa
                  unfold ParseAt at this ⊢
                  rw [this, drop_extract, hrl, List.drop_drop, hb0]
                  obtain ⟨n, hn⟩ : ∃ n, 100 - acc.length = n + 1 := ⟨99 - acc.length, by omega⟩
                  rw [hn, List.length_append, show 100 - (acc.length + [((m : Int), ((s'.data.toList.getD kk 0).toNat : Int))].length) = n by simp; omega]
                  rw [parseL, if_neg hemp, hfa, if_pos ⟨by omega, hv, hmd⟩]
                  simp only [Option.map_map]
                  congr 1
                  funext x
                  simp
                have hsz2 : (r.extract 1 r.size).size < s'.size := by rw [ByteArray.size_extract]; omega
                have lb := byteAt_lt r 0
                have hrm : r.size ≤ 9223372036854775807 := by omega
                generalize byteAt r 0 = y at *
                have HP := hide hpa; have HX := hide hnext; have HZ := hide hsz2
                have hs2 := fun wx => run_slice_string_l (P := Try.prog) wx 9 r Try.underlying9 .i64 (1 : Int) (by omega) (by omega)
                subst hu4
                clear hnone hpa hemp hk n1 n2 hfa hrl hrs hr0 hlen hm6 hnext hb0 hsz2
                go_wp2_with fail
                refine (unhide N1 _).mono ?_
                rintro e w2 ⟨rfl, q, hw2⟩
                subst hw2
                go_wp2_with fail
                refine (unhide N2 _).mono ?_
                rintro e w3 ⟨rfl, hw3⟩
                subst hw3
                go_wp2_with (at_builtin; refine wpList_append_own _ rfl _ _ 34 rfl w.heap.size 40 i0 (.agg #[.int .i64 0, .int .i64 0]) 2 16 Try.underlying34 hi hz0 hz1 hz2 rfl (by decide) _ _ _ rfl (ownsRow_two hown _ _) ⟨wr.heap.size, 0, none⟩ 1 1 [.int .i64 (m : Int), .int .i64 (y : Int)] rfl rfl (two_new' _ _ _ _ _) ?c2 ?c3 ?c4 ?c5 ?_)
                case c2 => intro u hu; simp at hu; rcases hu with rfl | rfl <;> rfl
                case c3 => unfold maxLen; omega
                case c4 => omega
                case c5 => have := hbw.size; simp; omega
                intro v' w4 hown' hgrow _
                have hb4 : Below w.heap.size w w4 := ((below_drewN hbw q).alloc hbw.size _).grown hgrow (by have := hbw.size; simp; omega) (fun q hq => (hown.lt q hq).1)
                have hown4 : w4.ownsRow w.heap.size 40 2 v' (acc ++ [((m : Int), (y : Int))]).length (cellsF (acc ++ [((m : Int), (y : Int))])) := by
                  rw [cellsF_snoc, List.length_append]
                  exact hown'
                clear hown' hgrow hown hbw
                go_wp2
                go_roundw
                case rel => exact ⟨r.extract 1 r.size, acc ++ [((m : Int), (y : Int))], by rw [List.length_append]; simp; omega, by have := unhide HZ; omega, rfl, hown4, unhide HX, hb4⟩
                case measure => exact unhide HZ
end Go.Proofs.Ythamjfgiklbifab
