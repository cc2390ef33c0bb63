/- The law's bent: a frame with some of 16 bits turned. -/
import Derived.Test.YthchicolifkpiaaDoorLsA
import Derived.Lib.ConvBytes
import Derived.BigRegion
import Derived.Test.YthchicolifkpiaaDoorStrLies
namespace Go.Proofs.YthchicolifkpiaaDoor
open Go.RowKit
set_option linter.unusedVariables false

theorem bentTo_next (F : List UInt8) (at0 c j : Nat) : bentTo F at0 c (j + 1) = if c / 2 ^ j % 2 = 1 ∧ at0 + j < 8 * F.length then flipL (bentTo F at0 c j) (at0 + j) else bentTo F at0 c j := rfl
theorem xor_u8b (y p : Nat) (hy : y < 256) : bits .xor .u8 (y : Int) (128 / 2 ^ p) = ((y ^^^ 128 / 2 ^ p : Nat) : Int) := by
  rw [show ((128 : Int) / 2 ^ p) = ((128 / 2 ^ p : Nat) : Int) by simp, xor_nat .u8 8 (by decide) wraps_u8 y _ (by omega) (Nat.lt_of_le_of_lt (Nat.div_le_self _ _) (by decide))]
theorem row_flipb {wr : World} {G : Nat} {L : List UInt8} {N k y : Nat} (hN : L.length = N) (hk : k / 8 < N) (hy : y = (L.getD (k / 8) 0).toNat) (hy6 : y < 256)
    (hrw : ∀ q, q < N → wr.cell? ⟨G, q, none⟩ = some (.int .u8 (L.getD q 0).toNat)) :
    ∀ q, q < N → (wr.setCell ⟨G, k / 8, none⟩ (.int .u8 ((y ^^^ 128 / 2 ^ (k % 8) : Nat) : Int))).drew.cell? ⟨G, q, none⟩ = some (.int .u8 ((flipL L k).getD q 0).toNat) := by
  intro q hq
  show (wr.setCell ⟨G, k / 8, none⟩ _).cell? ⟨G, q, none⟩ = _
  have hx : y ^^^ 128 / 2 ^ (k % 8) < 256 := Nat.xor_lt_two_pow (n := 8) hy6 (Nat.lt_of_le_of_lt (Nat.div_le_self _ _) (by decide))
  by_cases h : q = k / 8
  · subst h
    rw [World.cell?_setCell_same _ _ _ (hrw _ hq)]
    unfold flipL
    rw [List.getD_eq_getElem?_getD (l := L.set _ _), List.getElem?_set_self (by omega), Option.getD_some, UInt8.toNat_ofNat', ← hy, show (y ^^^ 128 / 2 ^ (k % 8)) % 2 ^ 8 = y ^^^ 128 / 2 ^ (k % 8) from Nat.mod_eq_of_lt (by simpa using hx)]
  · rw [World.cell?_setCell_other _ _ _ _ (by intro e; exact h (by have := congrArg Addr.off e; simpa using this.symm)), hrw _ hq]
    unfold flipL
    rw [List.getD_eq_getElem?_getD (l := L.set _ _), List.getElem?_set_ne (by omega), ← List.getD_eq_getElem?_getD]


theorem five_bits : ∀ r, r < 32 → ∀ j, j < 16 → r * 33825 / 2 ^ j % 2 = r / 2 ^ (j % 5) % 2 := by decide
theorem bit_of (x j : Nat) (h : j < 16) : x % 32 * 33825 / 2 ^ j % 2 = x / 2 ^ (j % 5) % 2 := by
  rw [five_bits _ (Nat.mod_lt _ (by decide)) j h]
  have h5 : j % 5 < 5 := Nat.mod_lt _ (by decide)
  generalize j % 5 = i at h5
  have : i = 0 ∨ i = 1 ∨ i = 2 ∨ i = 3 ∨ i = 4 := by omega
  rcases this with rfl | rfl | rfl | rfl | rfl <;> omega
set_option maxRecDepth 100000 in
set_option maxHeartbeats 4000000 in
theorem bent_any (s : ByteArray) (x : Nat) (w : World) (hx : x < 256) (hs : s.size ≤ 36) :
    Calls Tryd.prog 32 #[.string s, .int .i64 (x : Int)] w fun e w' => Below w.heap.size w w' ∧ ∃ s' : ByteArray, e = .returned (.string s') ∧ s'.size = s.size ∧ s'.data.toList = bentTo s.data.toList (x / 16) (x % 32 * 33825) 16 := by
  have hcv := fun w' => Lib.run_convert_string_bytes (P := Tryd.prog) w' 9 42 5 s Tryd.underlying9 Tryd.underlying42 Tryd.underlying5
  obtain ⟨r, hr⟩ : ∃ r, r = x / 16 := ⟨_, rfl⟩
  obtain ⟨c, hc⟩ : ∃ c, c = x % 32 * 33825 := ⟨_, rfl⟩
  have hr6 : r < 16 := by omega
  rw [← hr, ← hc]
  go_enter Tryd.func32, Tryd.ntmps32
  go_upto_region 2 with fail
  obtain ⟨W, hW⟩ : ∃ W, W = Lib.bytesWorld w 5 s := ⟨_, rfl⟩
  have hbx : Below w.heap.size w W := by
    rw [hW]
    exact ⟨rfl, rfl, rfl, by rw [Lib.bytesWorld_size]; omega, fun k hk => Lib.bytesWorld_at_old _ _ _ _ hk⟩
  have hrow : ∀ q, q < s.size → W.cell? ⟨w.heap.size, q, none⟩ = some (.int .u8 ((bentTo s.data.toList r c 0).getD q 0).toNat) := by
    intro q hq
    rw [hW]
    exact Lib.bytesWorld_cell w 5 s q hq
  have hfrz : ∀ q, q < s.size → W.frozen? ⟨w.heap.size, q, none⟩ = false := by
    intro q hq
    have h3 := Lib.bytesWorld_at_new w 5 s
    rw [hW]
    have hc : s.size ≤ (Lib.bytesCells w 5 s).size := by simp [Lib.bytesCells]
    simp [World.frozen?, h3]
    omega
  rw [← hW]
  generalize grownCap w s.size 0 5 = cp
  have hG : w.heap.size ≤ w.heap.size := Nat.le_refl _
  clear hcv hW
  have HC := hide hc
  have HX := hide hr
  clear hc
  go_wp2_with fail
  go_loopw [10] (fun i wr => ∃ j : Nat, j ≤ 16 ∧ i = .int .i64 j ∧ (∀ q, q < s.size → wr.cell? ⟨w.heap.size, q, none⟩ = some (.int .u8 ((bentTo s.data.toList r c j).getD q 0).toNat)) ∧ (∀ q, q < s.size → wr.frozen? ⟨w.heap.size, q, none⟩ = false) ∧ Below w.heap.size w wr)
    (fun i _ => 16 - (intOf i).toNat)
  case atStart => exact ⟨0, by omega, rfl, hrow, hfrz, hbx⟩
  case round =>
    obtain ⟨j, hj, rfl, hrw, hfw, hbw⟩ := hrel
    by_cases hlt : j < 16
    · have hbit : c / 2 ^ j % 2 = x / 2 ^ (j % 5) % 2 := by rw [unhide HC]; exact bit_of x j hlt
      have hcj : x / 2 ^ (j % 5) ≤ x := Nat.div_le_self _ _
      have hx16 : (x : Int) / 16 = (r : Int) := by omega
      obtain ⟨bt, hbt⟩ : ∃ bt, bt = x / 2 ^ (j % 5) % 2 := ⟨_, rfl⟩
      rw [← hbt] at hbit
      have q1 : bits .and .i64 ((x : Int) / 2 ^ (j % 5)) 1 = (bt : Int) := by
        rw [show ((x : Int) / 2 ^ (j % 5)) = ((x / 2 ^ (j % 5) : Nat) : Int) by simp, hbt]
        generalize x / 2 ^ (j % 5) = u at hcj
        rw [and_1 _ (by omega) (by omega)]
        omega
      have hb2 : bt < 2 := by rw [hbt]; exact Nat.mod_lt _ (by decide)
      clear hcj hbt
      by_cases hb1 : bt = 1
      · by_cases hin : r + j < 8 * s.size
        · have hq : (r + j) / 8 < s.size := by omega
          have hcell := hrw _ hq
          have hfr := hfw _ hq
          obtain ⟨y, hy⟩ : ∃ y, y = ((bentTo s.data.toList r c j).getD ((r + j) / 8) 0).toNat := ⟨_, rfl⟩
          rw [← hy] at hcell
          have hy6 : y < 256 := by rw [hy]; exact UInt8.toNat_lt _
          have hnext : bentTo s.data.toList r c (j + 1) = flipL (bentTo s.data.toList r c j) (r + j) := by
            rw [bentTo_next, if_pos ⟨by omega, by simpa using hin⟩]
          have g1 : 1 ≤ bt := by omega
          have q2 := xor_u8b y ((r + j) % 8) hy6
          have HN := hide hnext; have HY := hide hy; have HR := hide hrw; have HFW := hide hfw
          clear hnext hy hbit hb1 hrw hfw hr
          go_wp2_with fail
          go_region
          go_wp2
          go_roundw
          case rel =>
            refine ⟨j + 1, by omega, by go_num, ?_, fun q hq => ?_, ?_⟩
            · rw [unhide HN]
              exact row_flipb (by rw [bentTo_length]; simp) hq (unhide HY) hy6 (unhide HR)
            · exact (World.frozen?_setCell wr _ _ _).trans (unhide HFW q hq)
            · exact (hbw.setCell hG _).drew
          case measure => simp [intOf]; omega
        · have hnext : bentTo s.data.toList r c (j + 1) = bentTo s.data.toList r c j := by
            rw [bentTo_next, if_neg (fun h' => hin (by simpa using h'.2))]
          have g1 : 1 ≤ bt := by omega
          have HN := hide hnext; have HR := hide hrw; have HFW := hide hfw
          clear hnext hbit hb1 hrw hfw hr
          go_wp2
          go_roundw
          case rel => exact ⟨j + 1, by omega, by go_num, by rw [unhide HN]; exact unhide HR, unhide HFW, hbw⟩
          case measure => simp [intOf]; omega
      · have hnext : bentTo s.data.toList r c (j + 1) = bentTo s.data.toList r c j := by
          rw [bentTo_next, if_neg (fun h' => hb1 (by omega))]
        have g1 : bt ≤ 0 := by omega
        have HN := hide hnext; have HR := hide hrw; have HFW := hide hfw
        clear hnext hbit hb1 hrw hfw hr
        go_wp2
        go_roundw
        case rel => exact ⟨j + 1, by omega, by go_num, by rw [unhide HN]; exact unhide HR, unhide HFW, hbw⟩
        case measure => simp [intOf]; omega
    · have hj16 : j = 16 := by omega
      subst hj16
      have hln : (bentTo s.data.toList r c 16).length = s.size := by rw [bentTo_length]; simp
      obtain ⟨L, hL⟩ : ∃ L, L = bentTo s.data.toList r c 16 := ⟨_, rfl⟩
      rw [← hL] at hrw hln
      have hcv2 := run_convert_bytes_arg (P := Tryd.prog) wr 42 5 Tryd.underlying42 Tryd.underlying5 w.heap.size 0 s.size cp (L.map fun z => (z.toNat : Int)) (by rw [List.length_map, hln])
        (fun q hq => by
          rw [Nat.zero_add, hrw q hq]
          simp [List.getElem?_eq_getElem (show q < L.length by omega)]) 9 Tryd.underlying9
      have hS : (strOfNums (L.map fun z => (z.toNat : Int))).data.toList = L := by
        rw [strOfNums_data, List.map_map]
        have e : ((fun n : Int => UInt8.ofNat n.toNat) ∘ fun z : UInt8 => (z.toNat : Int)) = id := by funext z; simp
        rw [e, List.map_id]
      generalize strOfNums (L.map fun z => (z.toNat : Int)) = s' at *
      have hs' : s'.size = s.size := by rw [← hln, ← hS]; simp
      have HS := hide hS
      have HL := hide hL
      clear hS hL hln hrw hfw
      go_wp2
      go_ret
      exact ⟨hbw, s', rfl, hs', (unhide HS).trans (unhide HL)⟩
end Go.Proofs.YthchicolifkpiaaDoor
namespace Go.Proofs.YthchicolifkpiaaDoor
open Go.RowKit Go.Lib
set_option linter.unusedVariables false

def WinRow (w : World) (base : Nat) (e : TypeId) (v : Value) (xs : List Value) : Prop :=
  (v = .slice none 0 0 ∧ xs = []) ∨ ∃ g o cap cur, v = .slice (some ⟨g, o, none⟩) xs.length cap ∧ base ≤ g ∧ w.heap[g]? = some (.cells cur e (0, 0)) ∧ xs.length ≤ cap ∧ cap ≤ maxLen ∧ o + cap ≤ cur.size ∧ (cur.toList.drop o).take xs.length = xs
theorem WinRow.of_own {w : World} {base : Nat} {e : TypeId} {v : Value} {n : Nat} {xs : List Value} (h : w.ownsRow base e 1 v n xs) : WinRow w base e v xs := by
  have hl : xs.length = n := by simpa using h.1
  rcases h.2 with ⟨rfl, rfl⟩ | ⟨g, cap, cur, rfl, hb, hg, hn, hc, hs, ht⟩
  · exact .inl ⟨rfl, List.eq_nil_of_length_eq_zero hl⟩
  · exact .inr ⟨g, 0, cap, cur, by rw [hl], hb, hg, by omega, hc, by simp at hs; omega, by simpa [hl] using ht⟩
theorem WinRow.kept {w w' : World} {base : Nat} {e : TypeId} {v : Value} {xs : List Value} (h : WinRow w base e v xs) (hb : ∀ q, v.ownBlock = some q → w'.heap[q]? = w.heap[q]?) : WinRow w' base e v xs := by
  rcases h with h | ⟨g, o, cap, cur, rfl, h1, h2, h3⟩
  · exact .inl h
  · exact .inr ⟨g, o, cap, cur, rfl, h1, (hb g rfl).trans h2, h3⟩
theorem WinRow.lt {w : World} {base : Nat} {e : TypeId} {v : Value} {xs : List Value} (h : WinRow w base e v xs) : ∀ q, v.ownBlock = some q → q < w.heap.size ∧ base ≤ q := by
  intro q hq
  rcases h with ⟨rfl, _⟩ | ⟨g, o, cap, cur, rfl, h1, h2, _⟩
  · cases hq
  · cases hq
    refine ⟨?_, h1⟩
    rcases Nat.lt_or_ge g w.heap.size with hlt | hge
    · exact hlt
    · rw [Array.getElem?_eq_none hge] at h2; cases h2
theorem WinRow.cells {w : World} {base : Nat} {e : TypeId} {xs : List Value} {a : Addr} {n c : Nat} (h : WinRow w base e (.slice (some a) n c) xs) : n = xs.length ∧ a.spot = none ∧ ∀ j u, xs[j]? = some u → w.cell? (a.add j) = some u := by
  rcases h with ⟨h, _⟩ | ⟨g, o, cap, cur, hv, h1, h2, h3, h4, h5, h6⟩
  · cases h
  · cases hv
    refine ⟨rfl, rfl, fun j u hu => ?_⟩
    have hj : j < xs.length := by
      rcases Nat.lt_or_ge j xs.length with h | h
      · exact h
      · rw [List.getElem?_eq_none h] at hu; cases hu
    rw [← h6, List.getElem?_take_of_lt hj, List.getElem?_drop] at hu
    have ha : (⟨g, o, none⟩ : Addr).add j = ⟨g, o + j, none⟩ := by unfold Addr.add; split <;> simp_all
    rw [ha]
    simp only [World.cell?, h2]
    simpa using hu
/-- what is appended -/
def Src1 (w : World) (x : Value) (news : List Value) : Prop :=
  (x = .slice none 0 0 ∧ news = []) ∨ ∃ a c, x = .slice (some a) news.length c ∧ ∀ j u, news[j]? = some u → w.cell? (a.add j) = some u
theorem WinRow.src {w : World} {base : Nat} {e : TypeId} {v : Value} {xs : List Value} (h : WinRow w base e v xs) : Src1 w v xs := by
  have h0 := h
  rcases h with h | ⟨g, o, cap, cur, rfl, _⟩
  · exact .inl h
  · exact .inr ⟨_, _, rfl, h0.cells.2.2⟩
theorem run_append_win {P : Program} (w : World) (base : Nat) (t ty e : TypeId) (i : TypeInfo) (z : Value) (bytes : Nat) (ht : P.underlying t = some (.slice e)) (hi : P.info? e = some i) (hz : i.zero = some z)
    (hsize : i.size = 1) (hby : i.bytes = bytes) (hzs : z.cells.size = 1)
    (v : Value) (xs : List Value) (hown : WinRow w base e v xs) (x : Value) (news : List Value) (hx : Src1 w x news) (h1 : ∀ u ∈ news, u.oneCell' = true)
    (h63 : xs.length + news.length ≤ maxLen) (hbytes : (xs.length + news.length) * bytes ≤ 140737488355328) (hbase : base ≤ w.heap.size) :
    ∃ v' w', (Builtin.append_ #[t, t] ty #[v, x]).run P w = .ok v' w' ∧ WinRow w' base e v' (xs ++ news) ∧ w.grownBy w' v.ownBlock ∧ (v'.ownBlock = v.ownBlock ∨ v'.ownBlock = some w.heap.size) := by
  subst hby
  have hsmall : xs.length + news.length ≤ 9223372036854775807 := by simp only [maxLen] at h63; omega
  have hlen : (xs ++ news).length = xs.length + news.length := List.length_append
  by_cases hm : news.length = 0
  · -- nothing
    have hn : news = [] := List.eq_nil_of_length_eq_zero hm
    subst hn
    have hr : (Builtin.append_ #[t, t] ty #[v, x]).run P w = .ok v w := by
      rcases hown with ⟨rfl, rfl⟩ | ⟨g, o, cap, cur, rfl, h2, h3, h4, h5, h6, h7⟩ <;> rcases hx with ⟨rfl, _⟩ | ⟨a, c, rfl, _⟩ <;>
        simp [Builtin.append_, run_underlying ht, sizeOf, typeInfo, Builtin.lenOf, Builtin.firstCells, loadCells, loadCellsFrom, storeCells, *]
    exact ⟨v, w, hr, by rw [List.append_nil]; exact hown, ⟨rfl, rfl, rfl, Nat.le_refl _, fun _ _ _ => rfl⟩, .inl rfl⟩
  · rcases hx with ⟨_, rfl⟩ | ⟨a, c, rfl, hnews⟩
    · exact absurd rfl hm
    have hl : news.length = news.length * i.size := by rw [hsize, Nat.mul_one]
    have grown : ∀ (old : Nat) (row : Option Nat),
        WinRow (w.drew.alloc (.cells (xs.toArray ++ news.toArray ++ Builtin.zeroCells z.cells (grownCap w (xs.length + news.length) old e - (xs.length + news.length))) e)) base e
          (.slice (some ⟨w.heap.size, 0, none⟩) (xs.length + news.length) (grownCap w (xs.length + news.length) old e)) (xs ++ news) ∧
        w.grownBy (w.drew.alloc (.cells (xs.toArray ++ news.toArray ++ Builtin.zeroCells z.cells (grownCap w (xs.length + news.length) old e - (xs.length + news.length))) e)) row := by
      intro old row
      have hge := grownCap_ge w (xs.length + news.length) old e
      have hcm : grownCap w (xs.length + news.length) old e ≤ maxLen := grownCap_le_maxLen w (xs.length + news.length) old e h63
      refine ⟨.inr ⟨w.heap.size, 0, _, _, by rw [hlen], hbase, heap_alloc_new w.drew _, by rw [hlen]; exact hge, hcm, ?_, ?_⟩, ⟨rfl, rfl, rfl, by simp, fun k hk _ => Below.heap_alloc w.drew _ k hk⟩⟩
      · simp only [Array.size_append, List.size_toArray, size_zeroCells, hzs]
        omega
      · simp only [Array.toList_append, List.append_assoc, List.drop_zero]
        rw [← List.append_assoc]
        exact List.take_left
    rcases hown with ⟨rfl, rfl⟩ | ⟨g, o, cap, cur, rfl, hbg, hg, hnc, hcm, hcs, htake⟩
    · have hr := run_append_nil (P := P) w t ty e i z ht hi hz a news.length c news hl hnews (by omega) (by omega) (by have hb := hbytes; simp only [List.length_nil, Nat.zero_add] at hb; omega)
      have hgr := grown 0 (Value.ownBlock (.slice none 0 0))
      simp only [List.length_nil, Nat.zero_add, List.nil_append, Array.empty_append] at hgr ⊢
      exact ⟨_, _, hr, hgr.1, hgr.2, .inr rfl⟩
    · have hown' : WinRow w base e (.slice (some ⟨g, o, none⟩) xs.length cap) xs := .inr ⟨g, o, cap, cur, rfl, hbg, hg, hnc, hcm, hcs, htake⟩
      by_cases hroom : xs.length + news.length ≤ cap
      · have hf := run_firstCells_some (P := P) w i.size news.length a news.length c news hl hnews
        have hst := run_storeCells_at P g (o + xs.length) e news 0 cur w hg (by omega) h1
        simp only [Nat.add_zero] at hst
        have hr : (Builtin.append_ #[t, t] ty #[.slice (some ⟨g, o, none⟩) xs.length cap, .slice (some a) news.length c]).run P w =
            .ok (.slice (some ⟨g, o, none⟩) (xs.length + news.length) cap) (w.setRow g (cur.toList.take (o + xs.length) ++ news ++ cur.toList.drop (o + xs.length + news.length)).toArray) := by
          rw [hsize] at hf
          simp [Builtin.append_, run_underlying ht, sizeOf, typeInfo, hi, hsize, Builtin.lenOf, hroom, hf, Addr.add_lit, hst]
        have hcl : cur.toList.length = cur.size := Array.length_toList
        refine ⟨_, _, hr, .inr ⟨g, o, cap, _, by rw [hlen], hbg, setRow_heap w g cur _ e _ hg, by rw [hlen]; exact hroom, hcm, ?_, ?_⟩, ⟨rfl, rfl, rfl, by simp, fun k _ hk => setRow_other w g k _ (fun e => hk (by simp [Value.ownBlock, e]))⟩, .inl rfl⟩
        · simp only [List.size_toArray, List.length_append, List.length_take, List.length_drop, hcl]
          omega
        · show List.take (xs ++ news).length (List.drop o (List.take (o + xs.length) cur.toList ++ news ++ List.drop (o + xs.length + news.length) cur.toList)) = xs ++ news
          rw [List.append_assoc, List.drop_append_of_le_length (by rw [List.length_take, hcl]; omega), List.drop_take, show o + xs.length - o = xs.length by omega, htake, ← List.append_assoc]
          exact List.take_left
      · have hr := run_append_grow (P := P) w t ty e i z ht hi hz ⟨g, o, none⟩ xs.length cap xs (by rw [hsize, Nat.mul_one]) hown'.cells.2.2 a news.length c news hl hnews (by omega) (by omega) (growslice_fits (by omega) hbytes)
        have hgr := grown cap (Value.ownBlock (.slice (some ⟨g, o, none⟩) xs.length cap))
        exact ⟨_, _, hr, hgr.1, hgr.2, .inr rfl⟩
end Go.Proofs.YthchicolifkpiaaDoor
