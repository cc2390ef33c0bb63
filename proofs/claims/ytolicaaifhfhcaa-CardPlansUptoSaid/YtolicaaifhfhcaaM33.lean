/- Parse of the program; sameItems of the law, of one list that lies twice. -/
import Derived.Test.YtolicaaifhfhcaaM32
import Derived.Test.YtolicaaifhfhcaaM04
import Derived.Deep.RegionHeld3
import Derived.Deep.AppendLies
namespace Go.Proofs.Ytolicaaifhfhcaa
open Go.RowKit
set_option linter.unusedVariables false

theorem item_wt {d : Nat} {s : ByteArray} {x : It} {r : ByteArray} (ih : ∀ s l, parseD d s = some l → wt d l ≤ s.size) (h : itemAt (parseD d) s = some (x, r)) : 1 + x.text.size + wt d x.list + r.size ≤ s.size := by
  have h1 := (tagSz_le s.data.toList).1
  unfold itemAt at h
  split at h
  · cases h
  · split at h
    · cases h
    · split at h
      · cases h
      · rename_i n k hl
        have hk := lenAt_lt hl
        rw [behind_size] at hk
        split at h
        · cases h
        · rename_i hn
          rw [behind_size, behind_size] at hn
          split at h
          · cases hp : parseD d ((behind (behind s (tagSz s.data.toList)) k).extract 0 n) with
            | none => rw [hp] at h; cases h
            | some l =>
              rw [hp] at h
              have e := Option.some.inj h
              have e1 := (Prod.ext_iff.1 e).1
              have e2 := (Prod.ext_iff.1 e).2
              simp only at e1 e2
              have := ih _ _ hp
              rw [ByteArray.size_extract, behind_size, behind_size] at this
              rw [← e1, ← e2, behind_size, behind_size, behind_size]
              simp only [It.text, It.list]
              have : (⟨#[]⟩ : ByteArray).size = 0 := rfl
              omega
          · have e := Option.some.inj h
            have e1 := (Prod.ext_iff.1 e).1
            have e2 := (Prod.ext_iff.1 e).2
            simp only at e1 e2
            rw [← e1, ← e2, behind_size, behind_size, behind_size]
            simp only [It.text, It.list, wt_nil]
            rw [ByteArray.size_extract, behind_size, behind_size]
            omega
theorem list_wt {d : Nat} (ih : ∀ s l, parseD d s = some l → wt d l ≤ s.size) : ∀ (f : Nat) (s : ByteArray) (l : List It), listP (parseD d) f s = some l → wt (d + 1) l ≤ s.size
  | 0, s, l, h => by
    unfold listP at h
    split at h
    · cases h; simp [wt]
    · cases h
  | f + 1, s, l, h => by
    by_cases hz : s.size = 0
    · rw [listP_empty _ _ hz] at h; cases h; simp [wt]
    · rw [listP_step hz] at h
      cases hi : itemAt (parseD d) s with
      | none => rw [hi] at h; cases h
      | some xr =>
        obtain ⟨x, r⟩ := xr
        rw [hi] at h
        simp only at h
        cases hr : listP (parseD d) f r with
        | none => rw [hr] at h; cases h
        | some m =>
          rw [hr] at h
          have h1 := item_wt ih hi
          have h2 := list_wt ih f r m hr
          have e : l = x :: m := (Option.some.inj h).symm
          rw [e]
          simp only [wt, List.map_cons, List.sum_cons] at h2 ⊢
          omega
theorem parse_wt : ∀ (d : Nat) (s : ByteArray) (l : List It), parseD d s = some l → wt d l ≤ s.size
  | 0, s, l, h => by simp [wt]
  | d + 1, s, l, h => list_wt (parse_wt d) s.size s l h

/-- what Parse answers -/
def parsesL (s : ByteArray) : List It := if 65535 < s.size then [] else (parseD 8 s).getD []
def parsesE (s : ByteArray) : Int := if 65535 < s.size then 2 else if (parseD 8 s).isSome then 0 else 1
theorem parses_wt (s : ByteArray) : wt 8 (parsesL s) ≤ 65535 := by
  unfold parsesL
  split
  · rw [wt_nil]; omega
  · cases h : parseD 8 s with
    | none => simp [wt_nil]
    | some l => have := parse_wt 8 s l h; simp only [Option.getD_some]; omega


theorem below_self (w : World) (q : Nat) : Below w.heap.size w (w.drewN q) := ⟨rfl, rfl, rfl, Nat.le_refl _, fun _ _ => rfl⟩

end Go.Proofs.Ytolicaaifhfhcaa
namespace Go.Proofs.Ytolicaaifhfhcaa
open Go.RowKit
set_option linter.unusedVariables false

theorem below_keep {w w' : World} {a : Addr} {v : Value} (h : Below w.heap.size w w') (hc : w.cell? a = some v) : w'.cell? a = some v := (h.cell (World.block_lt_of_cell? w a hc)).trans hc

/-- how a row is written: the numbers of the bytes -/
def textL (fs : List (Int × Int)) : List Int := fs.flatMap fun f => tagL f.1.toNat ++ [f.2]
theorem textL_snoc (fs : List (Int × Int)) (f : Int × Int) : textL (fs ++ [f]) = textL fs ++ (tagL f.1.toNat ++ [f.2]) := by simp [textL]
theorem textL_take (fs : List (Int × Int)) (k : Nat) (h : k < fs.length) : textL (fs.take (k + 1)) = textL (fs.take k) ++ (tagL (fs.getD k (0, 0)).1.toNat ++ [(fs.getD k (0, 0)).2]) := by
  rw [List.take_succ_eq_append_getElem h, textL_snoc]
  simp [List.getD_eq_getElem?_getD, List.getElem?_eq_getElem h]
theorem tagL_length (t : Nat) : (tagL t).length = tagLen t := bigL_length t _
theorem textL_length (fs : List (Int × Int)) : (textL fs).length ≤ 4 * fs.length := by
  induction fs with
  | nil => simp [textL]
  | cons f fs ih =>
    have h3 := (tagLen_le f.1.toNat).2
    have e : textL (f :: fs) = (tagL f.1.toNat ++ [f.2]) ++ textL fs := by simp [textL]
    rw [e, List.length_append, List.length_append, tagL_length]
    simp
    omega

theorem news_kept {W w2 : World} {row : Option Nat} {B : Nat} {x : Value} (hg : W.grownBy w2 row) (hc : W.cell? ⟨B, 0, none⟩ = some x) (hne : some B ≠ row) : ∀ j u, [x][j]? = some u → w2.cell? ((⟨B, 0, none⟩ : Addr).add j) = some u := by
  intro j u hj
  match j, hj with
  | 0, hj =>
    simp at hj
    subst hj
    simpa [Addr.add] using hg.cell hc hne

theorem ne_old {u : Value} {N : Nat} (hne : ∀ q, u.ownBlock = some q → q < N) : some N ≠ u.ownBlock := fun e => by have := hne _ e.symm; omega
theorem ne_block {u : Value} {N g n c M : Nat} (hne : ∀ q, u.ownBlock = some q → q < N) (hg : u.ownBlock = some g ∨ M ≤ g) (hM : N < M) : some N ≠ (Value.slice (some ⟨g, 0, none⟩) n c).ownBlock := fun e => by
  have e' : N = g := Option.some.inj e
  rcases hg with h | h
  · have := hne _ h; omega
  · omega

theorem second_cell (w : World) (o : Obj) (x : Value) (e : TypeId) : ((w.alloc o).alloc (.cells #[x] e)).drew.cell? ⟨w.heap.size + 1, 0, none⟩ = some x := by
  have hg := heap_alloc_new (w.alloc o) (.cells #[x] e)
  rw [World.size_alloc] at hg
  exact (cell_of_row _ _ 0 #[x] e _ hg).trans rfl

theorem own_next {W : World} {base : Nat} {e : TypeId} {v : Value} {L M : List Int} {tn ln : Nat} (hN : M = L ++ (tagL tn ++ [(ln : Int)])) (h : W.ownsRow base e 1 v (L.length + tagLen tn + 1) (L.map (Value.int .u8) ++ (tagL tn).map (Value.int .u8) ++ [.int .u8 (ln : Int)])) :
    W.ownsRow base e 1 v M.length (M.map (Value.int .u8)) := by
  subst hN
  rw [List.length_append, List.length_append, tagL_length, List.map_append, List.map_append, ← List.append_assoc]
  exact h

theorem fieldsE_zero {fs : List (Int × Int)} (h : fieldsE fs = 0) : fs.all okF = true ∧ fs.length ≤ 100 := by
  unfold fieldsE at h
  by_cases ha : fs.all okF = true
  · rw [if_pos ha] at h
    by_cases hl : 100 < fs.length
    · rw [if_pos hl] at h; simp at h
    · exact ⟨ha, by omega⟩
  · rw [if_neg ha] at h; simp at h
theorem okF_of {fs : List (Int × Int)} (h : fs.all okF = true) (k : Nat) (hk : k < fs.length) : 1 ≤ (fs.getD k (0, 0)).1 ∧ (fs.getD k (0, 0)).1 < 16777216 ∧ 0 ≤ (fs.getD k (0, 0)).2 ∧ (fs.getD k (0, 0)).2 ≤ 255 := by
  have hm : fs.getD k (0, 0) ∈ fs := by rw [List.getD_eq_getElem?_getD, List.getElem?_eq_getElem hk]; exact List.getElem_mem hk
  have := List.all_eq_true.1 h _ hm
  unfold okF at this
  simp at this
  obtain ⟨h1, h2, h3, h4⟩ := this
  obtain ⟨h5, h6⟩ := validB_lt h1
  exact ⟨h5, h6, h3, h4⟩

set_option maxRecDepth 1000000 in
theorem printF_no (fs : List (Int × Int)) (ao : Option Addr) (cap : Nat) (w : World) (hr : FRow w ao fs) (hn : FNums fs) (hl : (fs.length : Int) ≤ 9000000000000000000) (he : fieldsE fs ≠ 0) :
    Calls Try.prog 20 #[.slice ao fs.length cap] w fun e w' => e = .returned (.tuple #[.string ⟨#[]⟩, .int .i64 (fieldsE fs)]) ∧ Below w.heap.size w w' := by
  have n1 := fun w' (h : FRow w' ao fs) => checkFields_any fs ao cap w' h hn hl
  generalize fieldsE fs = er at *
  have he' : (er != 0) = true := by simpa using he
  have N1 := hide n1
  clear n1 he
  go_enter Try.func20, Try.ntmps20
  go_wp2_with fail
  refine (unhide N1 _ hr).mono ?_
  rintro e w1 ⟨rfl, hb1⟩
  go_wp2
  go_ret2
  exact ⟨rfl, hb1⟩

set_option maxRecDepth 1000000 in
set_option maxHeartbeats 4000000 in
theorem printF_yes (fs : List (Int × Int)) (ao : Option Addr) (cap : Nat) (w : World) (hr : FRow w ao fs) (hn : FNums fs) (he : fieldsE fs = 0) :
    Calls Try.prog 20 #[.slice ao fs.length cap] w fun e w' => e = .returned (.tuple #[.string (strOfNums (textL fs)), .int .i64 0]) ∧ Below w.heap.size w w' := by
  obtain ⟨i0, hi, hz0, hz1, hz2⟩ := info_parts infoByte
  obtain ⟨hall, h100⟩ := fieldsE_zero he
  have n1 := fun w' (h : FRow w' ao fs) => checkFields_any fs ao cap w' h hn (by omega)
  rw [he] at n1
  have N1 := hide n1; have HA := hide hall
  clear n1 hall he hn
  go_enter Try.func20, Try.ntmps20
  go_wp2_with fail
  refine (unhide N1 _ hr).mono ?_
  rintro e w1 ⟨rfl, hb1⟩
  have hr1 := hr.below hb1
  clear hr
  go_wp2
  go_loopw [5, 15] (fun v i wr => ∃ k : Nat, k ≤ fs.length ∧ i = .int .i64 k ∧ wr.ownsRow w1.heap.size 5 1 v (textL (fs.take k)).length ((textL (fs.take k)).map (Value.int .u8)) ∧ Below w1.heap.size w1 wr) (fun _ i _ => fs.length - (intOf i).toNat)
  case atStart => exact ⟨0, Nat.zero_le _, rfl, World.ownsRow_nil _ _ _ _, Below.refl _ _⟩
  case round =>
    obtain ⟨k, hk, rfl, hown, hbw⟩ := hrel
    by_cases hlt : k < fs.length
    · rcases hr1 with hnil | ⟨b, off, rfl, hb, hc⟩
      · rw [hnil] at hlt; simp at hlt
      obtain ⟨c0, c1⟩ := hc k hlt
      have d0 : wr.cell? ⟨b, off + k * 2, none⟩ = _ := (hbw.cell (p := ⟨b, off + k * 2, none⟩) hb).trans c0
      have d1 : wr.cell? ⟨b, off + k * 2 + 1, none⟩ = _ := (hbw.cell (p := ⟨b, off + k * 2 + 1, none⟩) hb).trans c1
      have hnext := textL_take fs k hlt
      have hlen := textL_length (fs.take k)
      have hlen2 : (fs.take k).length ≤ 100 := by have := List.length_take_le k fs; omega
      obtain ⟨o1, o2, o3, o4⟩ := okF_of (unhide HA) k hlt
      generalize fs.getD k (0, 0) = f at *
      obtain ⟨ft, fl⟩ := f
      simp only at d0 d1 o1 o2 o3 o4 hnext
      obtain ⟨tn, rfl⟩ := Int.eq_ofNat_of_zero_le (show 0 ≤ ft by omega)
      obtain ⟨ln, rfl⟩ := Int.eq_ofNat_of_zero_le o3
      rw [Int.toNat_natCast] at hnext
      have ht3 := (tagLen_le tn).2
      have HN := hide hnext
      have htn : tn < 16777216 := by omega
      have HT := hide htn
      clear c0 c1 hc hnext o1 o2 o3 htn
      have hw8 : IntKind.u8.wrap (ln : Int) = (ln : Int) := wraps_u8 _ (by omega) (by omega)
      have hsz0 := hbw.size
      have hne : ∀ q, u5.ownBlock = some q → q < wr.heap.size := fun q hq => (hown.lt q hq).2
      go_wp2_with fail
      go_region_held3 (fun w' => w'.cell? ⟨wr.heap.size, 0, none⟩ = some (.int .i64 (tn : Int)) ∧ w'.cell? ⟨wr.heap.size, 1, none⟩ = some (.int .i64 (ln : Int)))
        (first
          | go_keep
          | (have hq := hat3; go_split_ands; refine ⟨hgrow.cell (by assumption) ?_, hgrow.cell (by assumption) ?_⟩; exact ne_block hne hg2 (by first | (simp; done) | (simp; omega)); exact ne_block hne hg2 (by first | (simp; done) | (simp; omega)))
          | (have hq := grow2; go_split_ands; refine ⟨grow2.cell (by assumption) ?_, grow2.cell (by assumption) ?_⟩; exact ne_old hne; exact ne_old hne))
        ((first
          | (go_at_call 35; refine (appendTag_any tn w1.heap.size (textL (fs.take k)).length _ ((textL (fs.take k)).map (Value.int .u8)) _ (unhide HT) ?_ ?_ ?_).mono ?_; (first | exact (hown.alloc _).drew | exact ((hown.alloc _).alloc _).drew); omega; (simp; omega); rintro e w2 ⟨g2, cp2, rfl, own2, grow2, hg2⟩)
          | (have hq := own2; refine step_append_lies _ (by rfl) _ _ _ (by rfl) w1.heap.size 5 i0 _ 1 1 Try.underlying55 hi hz0 hz1 hz2 rfl (by omega) _ _ _ (by rfl) (own2.alloc _) ⟨w2.heap.size, 0, none⟩ 1 1 [.int .u8 (ln : Int)] (by rfl) (by rfl) (cell_one_new _ _ _) (by simp [Value.oneCell']) (by omega) (by unfold maxLen; omega) (by omega) (by have := grow2.size; simp at this; simp; omega) (w2.heap.size + 1) (by simp) ?_; intro gg cap' w3 own3 hgrow hat3 hlt3)
          | (have hq := own2; refine step_append_lies _ (by rfl) _ _ _ (by rfl) w1.heap.size 5 i0 _ 1 1 Try.underlying55 hi hz0 hz1 hz2 rfl (by omega) _ _ _ (by rfl) own2 ⟨wr.heap.size + 1, 0, none⟩ 1 1 [.int .u8 (ln : Int)] (by rfl) (by rfl) (news_kept grow2 (second_cell _ _ _ _) (fun e => by have := hne _ e.symm; omega)) (by simp [Value.oneCell']) (by omega) (by unfold maxLen; omega) (by omega) (by have := grow2.size; simp at this; omega) w2.heap.size rfl ?_; intro gg cap' w3 own3 hgrow hat3 hlt3)))
      · have hb2 : Below w1.heap.size w1 w2 := ((hbw.alloc hsz0 _).drew).grown grow2 (by simp; omega) (fun q hq => (hown.lt q hq).1)
        have hb3 := (hb2.alloc hb2.size _).grown hgrow (by have := hb2.size; simp; omega) (fun q hq => (own2.lt q hq).1)
        have own4 := own_next (unhide HN) own3
        clear hb2 hgrow own3 own2 grow2 hown hbw
        go_wp2
        go_roundw
        case rel => exact ⟨k + 1, by omega, by go_num, own4, hb3⟩
        case measure => simp [intOf]; omega
      · have hb2 : Below w1.heap.size w1 w2 := (((hbw.alloc hsz0 _).alloc (by simp; omega) _).drew).grown grow2 (by simp; omega) (fun q hq => (hown.lt q hq).1)
        have hb3 := hb2.grown hgrow hb2.size (fun q hq => (own2.lt q hq).1)
        have own4 := own_next (unhide HN) own3
        clear hb2 hgrow own3 own2 grow2 hown hbw
        go_wp2
        go_roundw
        case rel => exact ⟨k + 1, by omega, by go_num, own4, hb3⟩
        case measure => simp [intOf]; omega
    · have hkl : k = fs.length := by omega
      subst hkl
      rw [List.take_of_length_le (Nat.le_refl _)] at hown
      have hbz : Below w.heap.size w wr := hb1.trans (hbw.mono hb1.size)
      rcases owned_cells hown with ⟨hv, hn⟩ | ⟨g, cap', hv, _, hcl⟩
      · have hcv := run_convert_bytes_nil (P := Try.prog) wr 55 5 Try.underlying55 Try.underlying5 0 0 9 Try.underlying9
        subst hv
        have HN := hide hn
        clear hown hn hr1
        go_wp2
        go_ret2
        exact ⟨by rw [unhide HN]; rfl, hbz⟩
      · have hcv := run_convert_bytes_arg (P := Try.prog) wr 55 5 Try.underlying55 Try.underlying5 g 0 (textL fs).length cap' _ rfl hcl 9 Try.underlying9
        subst hv
        clear hown hcl hr1
        go_wp2
        go_ret2
        exact ⟨rfl, hbz⟩
end Go.Proofs.Ytolicaaifhfhcaa
