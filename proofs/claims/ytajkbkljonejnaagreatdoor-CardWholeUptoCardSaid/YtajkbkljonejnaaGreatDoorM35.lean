/- parseItems and Parse of the program. -/
import Derived.Test.YtajkbkljonejnaaGreatDoorM34
import Derived.Deep.AppendLies
import Derived.Deep.RegionHeld3
namespace Go.Proofs.YtajkbkljonejnaaGreatDoor
open Go.RowKit
set_option linter.unusedVariables false
def RHold (W : World) (A : Nat → Prop) (d : Nat) (rs : List Raw) (acc : List It) : Prop :=
  rs.length = acc.length ∧ ∀ (i : Nat) (r : Raw) (x : It), rs[i]? = some r → acc[i]? = some x → r.tag = x.tag ∧ r.text = x.text ∧ r.n = x.list.length ∧ r.n ≤ r.cc ∧ IRowA W A d r.co x.list ∧ x.tag ≤ 9223372036854775807 ∧ x.text.size ≤ maxLen
theorem RHold.kept {W W' : World} {A A' : Nat → Prop} (hs : W.heap.size ≤ W'.heap.size) (hk : ∀ b, b < W.heap.size → A b → W'.heap[b]? = W.heap[b]? ∧ A' b) {d : Nat} {rs : List Raw} {acc : List It} (h : RHold W A d rs acc) : RHold W' A' d rs acc :=
  ⟨h.1, fun i r x hr hx => by
    obtain ⟨h1, h2, h3, h4, h5, h6⟩ := h.2 i r x hr hx
    exact ⟨h1, h2, h3, h4, IRowA.kept hs hk d h5, h6⟩⟩
theorem RHold.snoc {W : World} {A : Nat → Prop} {d : Nat} {rs : List Raw} {acc : List It} (h : RHold W A d rs acc) {r : Raw} {x : It} (h1 : r.tag = x.tag) (h2 : r.text = x.text) (h3 : r.n = x.list.length) (h4 : r.n ≤ r.cc) (h5 : IRowA W A d r.co x.list) (h6 : x.tag ≤ 9223372036854775807) (h7 : x.text.size ≤ maxLen) : RHold W A d (rs ++ [r]) (acc ++ [x]) := by
  refine ⟨by simp [h.1], fun i r' x' hr hx => ?_⟩
  rcases Nat.lt_trichotomy i rs.length with hi | hi | hi
  · rw [List.getElem?_append_left hi] at hr
    rw [List.getElem?_append_left (by rw [← h.1]; exact hi)] at hx
    exact h.2 i r' x' hr hx
  · rw [List.getElem?_append_right (by omega), hi, Nat.sub_self] at hr
    rw [List.getElem?_append_right (by rw [← h.1]; omega), hi, ← h.1, Nat.sub_self] at hx
    simp at hr hx
    subst hr hx
    exact ⟨h1, h2, h3, h4, h5, h6, h7⟩
  · rw [List.getElem?_eq_none (by simp; omega)] at hr
    cases hr
end Go.Proofs.YtajkbkljonejnaaGreatDoor
namespace Go.Proofs.YtajkbkljonejnaaGreatDoor
open Go.RowKit
set_option linter.unusedVariables false
end Go.Proofs.YtajkbkljonejnaaGreatDoor
namespace Go.Proofs.YtajkbkljonejnaaGreatDoor
open Go.RowKit
set_option linter.unusedVariables false
theorem below_keep {w w' : World} {a : Addr} {v : Value} (h : Below w.heap.size w w') (hc : w.cell? a = some v) : w'.cell? a = some v := (h.cell (World.block_lt_of_cell? w a hc)).trans hc
def textL (fs : List (Int × Int)) : List Int := fs.flatMap fun f => tagL f.1.toNat ++ [f.2]
theorem textL_snoc (fs : List (Int × Int)) (f : Int × Int) : textL (fs ++ [f]) = textL fs ++ (tagL f.1.toNat ++ [f.2]) := by simp [textL]
theorem textL_take (fs : List (Int × Int)) (k : Nat) (h : k < fs.length) : textL (fs.take (k + 1)) = textL (fs.take k) ++ (tagL (fs.getD k (0, 0)).1.toNat ++ [(fs.getD k (0, 0)).2]) := by
  rw [List.take_succ_eq_append_getElem h, textL_snoc]
  simp [List.getD_eq_getElem?_getD, List.getElem?_eq_getElem h]
theorem tagL_length (t : Nat) : (tagL t).length = tagLen t := bigL_length t _
theorem textL_length (fs : List (Int × Int)) : (textL fs).length ≤ 4 * fs.length := by
  induction fs with
  | nil => simp [textL]
  | cons f fs ih =>
    have h3 := (tagLen_le f.1.toNat).2
    have e : textL (f :: fs) = (tagL f.1.toNat ++ [f.2]) ++ textL fs := by simp [textL]
    rw [e, List.length_append, List.length_append, tagL_length]
    simp
    omega
theorem news_kept {W w2 : World} {row : Option Nat} {B : Nat} {x : Value} (hg : W.grownBy w2 row) (hc : W.cell? ⟨B, 0, none⟩ = some x) (hne : some B ≠ row) : ∀ j u, [x][j]? = some u → w2.cell? ((⟨B, 0, none⟩ : Addr).add j) = some u := by
  intro j u hj
  match j, hj with
  | 0, hj =>
    simp at hj
    subst hj
    simpa [Addr.add] using hg.cell hc hne
theorem ne_old {u : Value} {N : Nat} (hne : ∀ q, u.ownBlock = some q → q < N) : some N ≠ u.ownBlock := fun e => by have := hne _ e.symm; omega
theorem ne_block {u : Value} {N g n c M : Nat} (hne : ∀ q, u.ownBlock = some q → q < N) (hg : u.ownBlock = some g ∨ M ≤ g) (hM : N < M) : some N ≠ (Value.slice (some ⟨g, 0, none⟩) n c).ownBlock := fun e => by
  have e' : N = g := Option.some.inj e
  rcases hg with h | h
  · have := hne _ h; omega
  · omega
theorem second_cell (w : World) (o : Obj) (x : Value) (e : TypeId) : ((w.alloc o).alloc (.cells #[x] e)).drew.cell? ⟨w.heap.size + 1, 0, none⟩ = some x := by
  have hg := heap_alloc_new (w.alloc o) (.cells #[x] e)
  rw [World.size_alloc] at hg
  exact (cell_of_row _ _ 0 #[x] e _ hg).trans rfl
theorem own_next {W : World} {base : Nat} {e : TypeId} {v : Value} {L M : List Int} {tn ln : Nat} (hN : M = L ++ (tagL tn ++ [(ln : Int)])) (h : W.ownsRow base e 1 v (L.length + tagLen tn + 1) (L.map (Value.int .u8) ++ (tagL tn).map (Value.int .u8) ++ [.int .u8 (ln : Int)])) :
    W.ownsRow base e 1 v M.length (M.map (Value.int .u8)) := by
  subst hN
  rw [List.length_append, List.length_append, tagL_length, List.map_append, List.map_append, ← List.append_assoc]
  exact h
theorem fieldsE_zero {fs : List (Int × Int)} (h : fieldsE fs = 0) : fs.all okF = true ∧ fs.length ≤ 100 := by
  unfold fieldsE at h
  by_cases ha : fs.all okF = true
  · rw [if_pos ha] at h
    by_cases hl : 100 < fs.length
    · rw [if_pos hl] at h; simp at h
    · exact ⟨ha, by omega⟩
  · rw [if_neg ha] at h; simp at h
theorem okF_of {fs : List (Int × Int)} (h : fs.all okF = true) (k : Nat) (hk : k < fs.length) : 1 ≤ (fs.getD k (0, 0)).1 ∧ (fs.getD k (0, 0)).1 < 16777216 ∧ 0 ≤ (fs.getD k (0, 0)).2 ∧ (fs.getD k (0, 0)).2 ≤ 255 := by
  have hm : fs.getD k (0, 0) ∈ fs := by rw [List.getD_eq_getElem?_getD, List.getElem?_eq_getElem hk]; exact List.getElem_mem hk
  have := List.all_eq_true.1 h _ hm
  unfold okF at this
  simp at this
  obtain ⟨h1, h2, h3, h4⟩ := this
  obtain ⟨h5, h6⟩ := validB_lt h1
  exact ⟨h5, h6, h3, h4⟩
set_option maxRecDepth 1000000 in
theorem printF_no (fs : List (Int × Int)) (ao : Option Addr) (cap : Nat) (w : World) (hr : FRow w ao fs) (hn : FNums fs) (hl : (fs.length : Int) ≤ 9000000000000000000) (he : fieldsE fs ≠ 0) :
    Calls Tryz.prog 41 #[.slice ao fs.length cap] w fun e w' => e = .returned (.tuple #[.string ⟨#[]⟩, .int .i64 (fieldsE fs)]) ∧ Below w.heap.size w w' := by
  have n1 := fun w' (h : FRow w' ao fs) => checkFields_any fs ao cap w' h hn hl
  generalize fieldsE fs = er at *
  have he' : (er != 0) = true := by simpa using he
  have N1 := hide n1
  clear n1 he
  go_enter Tryz.func41, Tryz.ntmps41
  go_wp2_with fail
  refine (unhide N1 _ hr).mono ?_
  rintro e w1 ⟨rfl, hb1⟩
  go_wp2
  go_ret2
  exact ⟨rfl, hb1⟩
set_option maxRecDepth 1000000 in
set_option maxHeartbeats 4000000 in
theorem printF_yes (fs : List (Int × Int)) (ao : Option Addr) (cap : Nat) (w : World) (hr : FRow w ao fs) (hn : FNums fs) (he : fieldsE fs = 0) :
    Calls Tryz.prog 41 #[.slice ao fs.length cap] w fun e w' => e = .returned (.tuple #[.string (strOfNums (textL fs)), .int .i64 0]) ∧ Below w.heap.size w w' := by
  obtain ⟨i0, hi, hz0, hz1, hz2⟩ := info_parts infoByte
  obtain ⟨hall, h100⟩ := fieldsE_zero he
  have n1 := fun w' (h : FRow w' ao fs) => checkFields_any fs ao cap w' h hn (by omega)
  rw [he] at n1
  have N1 := hide n1; have HA := hide hall
  clear n1 hall he hn
  go_enter Tryz.func41, Tryz.ntmps41
  go_wp2_with fail
  refine (unhide N1 _ hr).mono ?_
  rintro e w1 ⟨rfl, hb1⟩
  have hr1 := hr.below hb1
  clear hr
  go_wp2
  go_loopw [5, 15] (fun v i wr => ∃ k : Nat, k ≤ fs.length ∧ i = .int .i64 k ∧ wr.ownsRow w1.heap.size 5 1 v (textL (fs.take k)).length ((textL (fs.take k)).map (Value.int .u8)) ∧ Below w1.heap.size w1 wr) (fun _ i _ => fs.length - (intOf i).toNat)
  case atStart => exact ⟨0, Nat.zero_le _, rfl, World.ownsRow_nil _ _ _ _, Below.refl _ _⟩
  case round =>
    obtain ⟨k, hk, rfl, hown, hbw⟩ := hrel
    by_cases hlt : k < fs.length
    · rcases hr1 with hnil | ⟨b, off, rfl, hb, hc⟩
      · rw [hnil] at hlt; simp at hlt
      obtain ⟨c0, c1⟩ := hc k hlt
      have d0 : wr.cell? ⟨b, off + k * 2, none⟩ = _ := (hbw.cell (p := ⟨b, off + k * 2, none⟩) hb).trans c0
      have d1 : wr.cell? ⟨b, off + k * 2 + 1, none⟩ = _ := (hbw.cell (p := ⟨b, off + k * 2 + 1, none⟩) hb).trans c1
      have hnext := textL_take fs k hlt
      have hlen := textL_length (fs.take k)
      have hlen2 : (fs.take k).length ≤ 100 := by have := List.length_take_le k fs; omega
      obtain ⟨o1, o2, o3, o4⟩ := okF_of (unhide HA) k hlt
      generalize fs.getD k (0, 0) = f at *
      obtain ⟨ft, fl⟩ := f
      simp only at d0 d1 o1 o2 o3 o4 hnext
      obtain ⟨tn, rfl⟩ := Int.eq_ofNat_of_zero_le (show 0 ≤ ft by omega)
      obtain ⟨ln, rfl⟩ := Int.eq_ofNat_of_zero_le o3
      rw [Int.toNat_natCast] at hnext
      have ht3 := (tagLen_le tn).2
      have HN := hide hnext
      have htn : tn < 16777216 := by omega
      have HT := hide htn
      clear c0 c1 hc hnext o1 o2 o3 htn
      have hw8 : IntKind.u8.wrap (ln : Int) = (ln : Int) := wraps_u8 _ (by omega) (by omega)
      have hsz0 := hbw.size
      have hne : ∀ q, u5.ownBlock = some q → q < wr.heap.size := fun q hq => (hown.lt q hq).2
      go_wp2_with fail
      go_region_held3 (fun w' => w'.cell? ⟨wr.heap.size, 0, none⟩ = some (.int .i64 (tn : Int)) ∧ w'.cell? ⟨wr.heap.size, 1, none⟩ = some (.int .i64 (ln : Int)))
        (first
          | go_keep
          | (have hq := hat3; go_split_ands; refine ⟨hgrow.cell (by assumption) ?_, hgrow.cell (by assumption) ?_⟩; exact ne_block hne hg2 (by first | (simp; done) | (simp; omega)); exact ne_block hne hg2 (by first | (simp; done) | (simp; omega)))
          | (have hq := grow2; go_split_ands; refine ⟨grow2.cell (by assumption) ?_, grow2.cell (by assumption) ?_⟩; exact ne_old hne; exact ne_old hne))
        ((first
          | (go_at_call 92; refine (appendTag_any tn w1.heap.size (textL (fs.take k)).length _ ((textL (fs.take k)).map (Value.int .u8)) _ (unhide HT) ?_ ?_ ?_).mono ?_; (first | exact (hown.alloc _).drew | exact ((hown.alloc _).alloc _).drew); omega; (simp; omega); rintro e w2 ⟨g2, cp2, rfl, own2, grow2, hg2⟩)
          | (have hq := own2; refine step_append_lies _ (by rfl) _ _ _ (by rfl) w1.heap.size 5 i0 _ 1 1 Tryz.underlying55 hi hz0 hz1 hz2 rfl (by omega) _ _ _ (by rfl) (own2.alloc _) ⟨w2.heap.size, 0, none⟩ 1 1 [.int .u8 (ln : Int)] (by rfl) (by rfl) (cell_one_new _ _ _) (by simp [Value.oneCell']) (by omega) (by unfold maxLen; omega) (by omega) (by have := grow2.size; simp at this; simp; omega) (w2.heap.size + 1) (by simp) ?_; intro gg cap' w3 own3 hgrow hat3 hlt3)
          | (have hq := own2; refine step_append_lies _ (by rfl) _ _ _ (by rfl) w1.heap.size 5 i0 _ 1 1 Tryz.underlying55 hi hz0 hz1 hz2 rfl (by omega) _ _ _ (by rfl) own2 ⟨wr.heap.size + 1, 0, none⟩ 1 1 [.int .u8 (ln : Int)] (by rfl) (by rfl) (news_kept grow2 (second_cell _ _ _ _) (fun e => by have := hne _ e.symm; omega)) (by simp [Value.oneCell']) (by omega) (by unfold maxLen; omega) (by omega) (by have := grow2.size; simp at this; omega) w2.heap.size rfl ?_; intro gg cap' w3 own3 hgrow hat3 hlt3)))
      · have hb2 : Below w1.heap.size w1 w2 := ((hbw.alloc hsz0 _).drew).grown grow2 (by simp; omega) (fun q hq => (hown.lt q hq).1)
        have hb3 := (hb2.alloc hb2.size _).grown hgrow (by have := hb2.size; simp; omega) (fun q hq => (own2.lt q hq).1)
        have own4 := own_next (unhide HN) own3
        clear hb2 hgrow own3 own2 grow2 hown hbw
        go_wp2
        go_roundw
        case rel => exact ⟨k + 1, by omega, by go_num, own4, hb3⟩
        case measure => simp [intOf]; omega
      · have hb2 : Below w1.heap.size w1 w2 := (((hbw.alloc hsz0 _).alloc (by simp; omega) _).drew).grown grow2 (by simp; omega) (fun q hq => (hown.lt q hq).1)
        have hb3 := hb2.grown hgrow hb2.size (fun q hq => (own2.lt q hq).1)
        have own4 := own_next (unhide HN) own3
        clear hb2 hgrow own3 own2 grow2 hown hbw
        go_wp2
        go_roundw
        case rel => exact ⟨k + 1, by omega, by go_num, own4, hb3⟩
        case measure => simp [intOf]; omega
    · have hkl : k = fs.length := by omega
      subst hkl
      rw [List.take_of_length_le (Nat.le_refl _)] at hown
      have hbz : Below w.heap.size w wr := hb1.trans (hbw.mono hb1.size)
      rcases owned_cells hown with ⟨hv, hn⟩ | ⟨g, cap', hv, _, hcl⟩
      · have hcv := run_convert_bytes_nil (P := Tryz.prog) wr 55 5 Tryz.underlying55 Tryz.underlying5 0 0 9 Tryz.underlying9
        subst hv
        have HN := hide hn
        clear hown hn hr1
        go_wp2
        go_ret2
        exact ⟨by rw [unhide HN]; rfl, hbz⟩
      · have hcv := run_convert_bytes_arg (P := Tryz.prog) wr 55 5 Tryz.underlying55 Tryz.underlying5 g 0 (textL fs).length cap' _ rfl hcl 9 Tryz.underlying9
        subst hv
        clear hown hcl hr1
        go_wp2
        go_ret2
        exact ⟨rfl, hbz⟩
end Go.Proofs.YtajkbkljonejnaaGreatDoor
namespace Go.Proofs.YtajkbkljonejnaaGreatDoor
open Go.RowKit
set_option linter.unusedVariables false
def printS (fs : List (Int × Int)) : ByteArray := if fieldsE fs = 0 then strOfNums (textL fs) else ⟨#[]⟩
theorem printF_all (fs : List (Int × Int)) (ao : Option Addr) (cap : Nat) (w : World) (hr : FRow w ao fs) (hn : FNums fs) (hl : (fs.length : Int) ≤ 9000000000000) :
    Calls Tryz.prog 41 #[.slice ao fs.length cap] w fun e w' => e = .returned (.tuple #[.string (printS fs), .int .i64 (fieldsE fs)]) ∧ Below w.heap.size w w' := by
  unfold printS
  by_cases he : fieldsE fs = 0
  · rw [if_pos he, he]; exact printF_yes fs ao cap w hr hn he
  · rw [if_neg he]; exact printF_no fs ao cap w hr hn (by omega) he
theorem three_sizes (L : List Int) (tn ln : Nat) : (strOfNums (tagL tn)).size ≤ 3 ∧ (strOfNums [lowByte (ln : Int)]).size ≤ 1 ∧ (strOfNums (tagL tn) ++ strOfNums [lowByte (ln : Int)]).size ≤ 4 := by
  have h := (tagLen_le tn).2
  rw [ByteArray.size_append, strOfNums_size, strOfNums_size, tagL_length]
  simp
  omega
theorem new_cell (w : World) (x : Value) (e : TypeId) : (w.alloc (.cells #[x] e)).cell? ⟨w.heap.size, 0, none⟩ = some x := (cell_of_row _ _ 0 #[x] e _ (heap_alloc_new w _)).trans rfl
theorem bytes_low (ln : Nat) (hlow : lowByte (ln : Int) = (ln : Int)) (b off cap : Nat) (w : World) (hc : w.cell? ⟨b, off, none⟩ = some (.int .i64 (ln : Int))) :
    Calls Tryz.prog 54 #[.slice (some ⟨b, off, none⟩) 1 cap] w fun e w' => e = .returned (.string (strOfNums [(ln : Int)])) ∧ Below w.heap.size w w' := by
  have h := bytes_one (ln : Int) b off cap w (World.block_lt_of_cell? _ _ hc) hc
  rw [hlow] at h
  exact h
set_option maxRecDepth 1000000 in
set_option maxHeartbeats 4000000 in
theorem rprintF_all (fs : List (Int × Int)) (ao : Option Addr) (cap : Nat) (w : World) (hr : FRow w ao fs) (hn : FNums fs) (hl : (fs.length : Int) ≤ 9000000000000) :
    Calls Tryz.prog 19 #[.slice ao fs.length cap] w fun e w' => e = .returned (.tuple #[.string (printS fs), .int .i64 (fieldsE fs)]) ∧ Below w.heap.size w w' := by
  go_enter Tryz.func19, Tryz.ntmps19
  go_wp2
  go_loopw [4, 5] (fun s i wr => ∃ k : Nat, k ≤ fs.length ∧ i = .int .i64 k ∧ s = .string (strOfNums (textL (fs.take k))) ∧ AllTo fs k ∧ Below w.heap.size w wr) (fun _ i _ => fs.length - (intOf i).toNat)
  case atStart => exact ⟨0, Nat.zero_le _, rfl, rfl, by simp [AllTo], Below.refl _ _⟩
  case round =>
    obtain ⟨k, hk, rfl, rfl, hall', hbw⟩ := hrel
    have hall : (fs.take k).all okF = true := hall'
    clear hall'
    by_cases hlt : k < fs.length
    · rcases hr with hnil | ⟨b, off, rfl, hb, hc⟩
      · rw [hnil] at hlt; simp at hlt
      obtain ⟨c0, c1⟩ := hc k hlt
      have d0 : wr.cell? ⟨b, off + k * 2, none⟩ = _ := (hbw.cell (p := ⟨b, off + k * 2, none⟩) hb).trans c0
      have d1 : wr.cell? ⟨b, off + k * 2 + 1, none⟩ = _ := (hbw.cell (p := ⟨b, off + k * 2 + 1, none⟩) hb).trans c1
      have hnext := all_take_succ fs k hlt
      rw [hall, Bool.true_and] at hnext
      have hfn : (fs.getD k (0, 0)).1 ≤ 9223372036854775807 := hn _ (by
        rw [List.getD_eq_getElem?_getD, List.getElem?_eq_getElem hlt]; exact List.getElem_mem hlt)
      have hfo : okF (fs.getD k (0, 0)) = false → fieldsE fs = 1 := fun h => by
        unfold fieldsE
        rw [all_of_take_false fs (k + 1) (by rw [hnext, h]), if_neg (by decide)]
      have htext := textL_take fs k hlt
      generalize fs.getD k (0, 0) = f at *
      obtain ⟨ft, fl⟩ := f
      simp only at d0 d1 hfn htext
      have n1 := fun w => rvalid_any ft w hfn
      have hbk : b < wr.heap.size := World.block_lt_of_cell? _ _ d0
      have hki : (k : Int) < (fs.length : Int) := by omega
      have hs1 : ((strOfNums (textL (fs.take k))).size : Int) ≤ 40000000000000 := by
        have h1 := textL_length (fs.take k)
        have h2 := List.length_take_le k fs
        rw [strOfNums_size]
        omega
      generalize hs0 : strOfNums (textL (fs.take k)) = s at *
      have HS0 := hide hs0
      clear c0 c1 hc hs0
      have fin : fieldsE fs = 1 → Ending.returned (.tuple #[.string ⟨#[]⟩, .int .i64 1]) = .returned (.tuple #[.string (printS fs), .int .i64 (fieldsE fs)]) := fun h => by
        unfold printS
        rw [h, if_neg (by decide)]
      have FIN := hide fin
      clear fin
      cases hv : validB ft with
      | false =>
        rw [hv] at n1
        have N1 := hide n1
        have HO := hide (hfo (by unfold okF; rw [hv, Bool.false_and]))
        clear n1 hfo hnext hall hv htext
        go_wp2_with fail
        refine (unhide N1 _).mono ?_
        rintro e w2 ⟨rfl, hb2⟩
        have hbz : Below w.heap.size w w2 := hbw.trans (hb2.mono hbw.size)
        clear hb2
        go_wp2
        go_ret2
        exact ⟨unhide FIN (unhide HO), hbz⟩
      | true =>
        obtain ⟨h1, h2⟩ := validB_lt hv
        obtain ⟨tn, rfl⟩ := Int.eq_ofNat_of_zero_le (show 0 ≤ ft by omega)
        have n2 := fun w => rmade_any tn w (by omega)
        have n3 := fun w => tagText_any tn w (by omega)
        rw [hv] at n1
        rw [Int.toNat_natCast] at htext
        have N3 := hide n3
        clear n3
        cases hm : madeB tn with
        | true =>
          rw [hm] at n2
          have N1 := hide n1; have N2 := hide n2
          have HO := hide (hfo (by unfold okF; simp [hv, hm]))
          clear n1 n2 hfo hnext hall hv hm htext h1 h2 hfn hn
          go_wp2_with fail
          refine (unhide N1 _).mono ?_
          rintro e w2 ⟨rfl, hb2⟩
          have hbz : Below w.heap.size w w2 := hbw.trans (hb2.mono hbw.size)
          have e0 := below_keep hb2 d0
          have e1 := below_keep hb2 d1
          clear hb2
          go_wp2_with fail
          refine (unhide N2 _).mono ?_
          rintro e w3 ⟨rfl, hb3⟩
          have hby : Below w.heap.size w w3 := hbz.trans (hb3.mono hbz.size)
          have f0 := below_keep hb3 e0
          have f1 := below_keep hb3 e1
          clear hb3
          go_wp2
          go_ret2
          exact ⟨unhide FIN (unhide HO), hby⟩
        | false =>
          rw [hm] at n2
          have N1 := hide n1; have N2 := hide n2
          by_cases hl0 : fl < 0
          · have HO := hide (hfo (by unfold okF; simp; intros; omega))
            clear n1 n2 hfo hnext hall hv hm htext h1 h2 hfn hn
            go_wp2_with fail
            refine (unhide N1 _).mono ?_
            rintro e w2 ⟨rfl, hb2⟩
            have hbz : Below w.heap.size w w2 := hbw.trans (hb2.mono hbw.size)
            have e0 := below_keep hb2 d0
            have e1 := below_keep hb2 d1
            clear hb2
            go_wp2_with fail
            refine (unhide N2 _).mono ?_
            rintro e w3 ⟨rfl, hb3⟩
            have hby : Below w.heap.size w w3 := hbz.trans (hb3.mono hbz.size)
            have f0 := below_keep hb3 e0
            have f1 := below_keep hb3 e1
            clear hb3
            go_wp2
            go_ret2
            exact ⟨unhide FIN (unhide HO), hby⟩
          · by_cases hl2 : 255 < fl
            · have HO := hide (hfo (by unfold okF; simp; intros; omega))
              clear n1 n2 hfo hnext hall hv hm htext h1 h2 hfn hn
              go_wp2_with fail
              refine (unhide N1 _).mono ?_
              rintro e w2 ⟨rfl, hb2⟩
              have hbz : Below w.heap.size w w2 := hbw.trans (hb2.mono hbw.size)
              have e0 := below_keep hb2 d0
              have e1 := below_keep hb2 d1
              clear hb2
              go_wp2_with fail
              refine (unhide N2 _).mono ?_
              rintro e w3 ⟨rfl, hb3⟩
              have hby : Below w.heap.size w w3 := hbz.trans (hb3.mono hbz.size)
              have f0 := below_keep hb3 e0
              have f1 := below_keep hb3 e1
              clear hb3
              go_wp2
              go_ret2
              exact ⟨unhide FIN (unhide HO), hby⟩
            · have hok : okF ((tn : Int), fl) = true := by unfold okF; simp [hv, hm]; omega
              rw [hok] at hnext
              obtain ⟨ln, rfl⟩ := Int.eq_ofNat_of_zero_le (show 0 ≤ fl by omega)
              have g1 : (ln : Int) ≤ 255 := by omega
              obtain ⟨z1, z2, z3⟩ := three_sizes [] tn ln
              have hlow : lowByte (ln : Int) = (ln : Int) := by unfold lowByte; omega
              rw [hlow] at z2 z3
              have z1' : (strOfNums (bigL tn (tagLen tn))).size ≤ 3 := z1
              have z3' : (strOfNums (bigL tn (tagLen tn)) ++ strOfNums [(ln : Int)]).size ≤ 4 := z3
              clear z1 z3
              have ha1 := fun w' => run_string_add_sum (P := Tryz.prog) w' (strOfNums (bigL tn (tagLen tn))) (strOfNums [(ln : Int)]) (by omega)
              have ha2 := fun w' => run_string_add_sum (P := Tryz.prog) w' s (strOfNums (bigL tn (tagLen tn)) ++ strOfNums [(ln : Int)]) (by omega)
              have HX := hide hnext; have HT := hide htext; have HL := hide hlow
              clear n1 n2 hfo hnext hall hv hm hok hl0 hl2 h1 h2 hfn hn htext hlow FIN
              go_wp2_with fail
              refine (unhide N1 _).mono ?_
              rintro e w2 ⟨rfl, hb2⟩
              have hbz : Below w.heap.size w w2 := hbw.trans (hb2.mono hbw.size)
              have e0 := below_keep hb2 d0
              have e1 := below_keep hb2 d1
              clear hb2
              go_wp2_with fail
              refine (unhide N2 _).mono ?_
              rintro e w3 ⟨rfl, hb3⟩
              have hby : Below w.heap.size w w3 := hbz.trans (hb3.mono hbz.size)
              have f0 := below_keep hb3 e0
              have f1 := below_keep hb3 e1
              clear hb3
              clear d0 d1 e0 e1 hbz
              go_wp2_with fail
              go_region_held3 (fun w' => w'.cell? ⟨b, off + k * 2, none⟩ = some (.int .i64 (tn : Int)) ∧ w'.cell? ⟨b, off + k * 2 + 1, none⟩ = some (.int .i64 (ln : Int)))
                (first
                  | go_keep
                  | (have hq := hb5; go_split_ands; exact ⟨below_keep hb5 (by assumption), below_keep hb5 (by assumption)⟩)
                  | (have hq := hb4; go_split_ands; exact ⟨below_keep hb4 (by assumption), below_keep hb4 (by assumption)⟩))
                ((first
                  | (go_at_call 53; refine (unhide N3 _).mono ?_; rintro e w4 ⟨rfl, hb4⟩)
                  | (go_at_call 54; refine (bytes_low ln (unhide HL) _ _ _ _ ?_).mono ?_; exact new_cell _ _ _; rintro e w5 ⟨rfl, hb5⟩)
                  | (go_at_call 54; refine (bytes_low ln (unhide HL) _ _ _ _ ?_).mono ?_; exact below_keep hb4 (new_cell _ _ _); rintro e w5 ⟨rfl, hb5⟩)))
              · have hbp := hby.drew.trans (hb4.mono (by simp; exact hby.size))
                have hbq := (hbp.alloc hbp.size _).trans (hb5.mono (by have := hbp.size; simp; omega))
                have hst : strOfNums (textL (fs.take (k + 1))) = s ++ (strOfNums (bigL tn (tagLen tn)) ++ strOfNums [(ln : Int)]) := by
                  rw [unhide HT, ← strOfNums_append, ← strOfNums_append, unhide HS0]
                have HST := hide hst
                clear hst hb4 hb5
                go_wp2
                go_roundw
                case rel => exact ⟨k + 1, by omega, by go_num, by rw [unhide HST], unhide HX, hbq⟩
                case measure => simp [intOf]; omega
              · have hbp := ((hby.alloc hby.size _).drew).trans (hb4.mono (by have := hby.size; simp; omega))
                have hbq := hbp.trans (hb5.mono hbp.size)
                have hst : strOfNums (textL (fs.take (k + 1))) = s ++ (strOfNums (bigL tn (tagLen tn)) ++ strOfNums [(ln : Int)]) := by
                  rw [unhide HT, ← strOfNums_append, ← strOfNums_append, unhide HS0]
                have HST := hide hst
                clear hst hb4 hb5
                go_wp2
                go_roundw
                case rel => exact ⟨k + 1, by omega, by go_num, by rw [unhide HST], unhide HX, hbq⟩
                case measure => simp [intOf]; omega
    · rw [List.take_of_length_le (by omega)] at hall
      have he : fieldsE fs = if 100 < fs.length then 2 else 0 := by unfold fieldsE; rw [if_pos hall]
      have hkl : k = fs.length := by omega
      subst hkl
      rw [List.take_of_length_le (Nat.le_refl _)]
      have HE := hide he
      clear hall he
      by_cases h100 : 100 < fs.length
      · have H1 := hide h100
        go_wp2
        go_ret2
        exact ⟨by unfold printS; rw [unhide HE, if_pos (unhide H1), if_neg (by decide)]; rfl, hbw⟩
      · have H1 := hide h100
        go_wp2
        go_ret2
        exact ⟨by unfold printS; rw [unhide HE, if_neg (unhide H1), if_pos rfl]; rfl, hbw⟩
end Go.Proofs.YtajkbkljonejnaaGreatDoor
namespace Go.Proofs.YtajkbkljonejnaaGreatDoor
open Go.RowKit
set_option linter.unusedVariables false
end Go.Proofs.YtajkbkljonejnaaGreatDoor
