/- The reference's Row. -/
import Derived.Test.YtolicaaifhfhcaaM51
import Derived.Test.YtolicaaifhfhcaaM08
import Derived.Test.YtolicaaifhfhcaaM30
import Derived.Test.YtolicaaifhfhcaaM46
import Derived.Test.YtolicaaifhfhcaaM50
import Derived.Test.YtolicaaifhfhcaaM53
import Derived.Test.YtolicaaifhfhcaaM05
import Derived.Test.YtolicaaifhfhcaaM49
import Derived.Deep.RegionHeld3
import Derived.Deep.DeepCutAuto
namespace Go.Proofs.Ytolicaaifhfhcaa
open Go.RowKit
set_option linter.unusedVariables false

theorem rowS_nil : rowS [] = ⟨#[]⟩ := rfl
theorem rowS_take (fs : List ByteArray) (k : Nat) (s : ByteArray) (h : fs[k]? = some s) : rowS (fs.take (k + 1)) = rowS (fs.take k) ++ (strOfNums (bigL s.size 4) ++ s) := by
  apply ByteArray.ext
  apply Array.toList_inj.1
  rw [rowS_data, ByteArray.data_append, Array.toList_append, rowS_data, ByteArray.data_append, Array.toList_append, strOfNums_data, List.take_add_one, h, rowL_append]
  simp [rowL, partL, bytesOf]
theorem rowN_takeR (fs : List ByteArray) (k : Nat) : rowN (fs.take k) ≤ rowN fs := by
  rw [← rowL_length, ← rowL_length]
  conv => rhs; rw [← List.take_append_drop k fs]
  rw [rowL_append, List.length_append]
  omega

set_option maxHeartbeats 2000000 in
set_option maxRecDepth 100000 in
theorem rrow_any (fs : List ByteArray) (ao : Option Addr) (cap : Nat) (w : World) (hr : TRow w ao fs) (hn : (rowN fs : Int) ≤ 1099511627776) (hl : (fs.length : Int) ≤ 1099511627776) :
    Calls Try.prog 31 #[.slice ao fs.length cap] w fun e w' => e = .returned (.string (rowS fs)) ∧ Below w.heap.size w w' := by
  have HR := hide hr
  have HN := hide hn
  clear hr hn
  go_enter Try.func31, Try.ntmps31
  go_wp2
  go_loopw [3, 4] (fun s i wr => ∃ k : Nat, k ≤ fs.length ∧ i = .int .i64 k ∧ s = .string (rowS (fs.take k)) ∧ Below w.heap.size w wr) (fun _ i _ => fs.length - (intOf i).toNat)
  case atStart => exact ⟨0, Nat.zero_le _, rfl, rfl, Below.refl _ _⟩
  case round =>
    obtain ⟨k, hk, rfl, rfl, hbel⟩ := hrel
    by_cases hlt : k < fs.length
    · obtain ⟨s, hs⟩ : ∃ s, fs[k]? = some s := ⟨fs[k], List.getElem?_eq_getElem hlt⟩
      rcases (unhide HR) with hnil | ⟨b, off, rfl, hb, hc⟩
      · rw [hnil] at hlt; simp at hlt
      have hstep := rowS_take fs k s hs
      have hz1 : (rowS (fs.take (k + 1))).size ≤ rowN fs := by rw [rowS_size]; exact rowN_takeR fs (k + 1)
      have hz0 : (rowS (fs.take k)).size + (4 + s.size) ≤ rowN fs := by
        rw [hstep, ByteArray.size_append, ByteArray.size_append, strOfNums_size, bigL_length] at hz1
        exact hz1
      have hsb : (s.size : Int) ≤ 1099511627776 := by have := unhide HN; omega
      have hS : ((rowS (fs.take k)).size : Int) + (4 + (s.size : Int)) ≤ 1099511627776 := by have := unhide HN; omega
      have B0 := hide (fun w => big_any s.size 4 w (by decide) (by omega))
      have h4 : (strOfNums (bigL s.size 4)).size = 4 := by rw [strOfNums_size, bigL_length]
      generalize strOfNums (bigL s.size 4) = S4 at *
      have hbw : b < wr.heap.size := Nat.lt_of_lt_of_le hb hbel.size
      have hcw : wr.cell? ⟨b, off + k, none⟩ = some (.string s) := (hbel.cell (p := ⟨b, off + k, none⟩) hb).trans (hc k s hs)
      have C0 := hide (fun w1 (hw : Below wr.heap.size wr w1) => (hw.cell (p := ⟨b, off + k, none⟩) hbw).trans hcw)
      have HST := hide hstep
      have HW := hide hbel
      have hki : (k : Int) < (fs.length : Int) := by omega
      have hS1 : (S4 ++ s).size = 4 + s.size := by rw [ByteArray.size_append, h4]
      generalize rowS (fs.take k) = S at *
      have ha1 := fun w' => run_string_add_sum (P := Try.prog) w' S4 s (by omega)
      have ha2 := fun w' => run_string_add_sum (P := Try.prog) w' S (S4 ++ s) (by rw [hS1]; omega)
      clear hstep hz0 hz1 hbel hc hcw hs
      go_wp2_with fail
      refine wp_region_below wr (Below.refl _ _) (by kernel_rfl) (by kernel_rfl) ?_
      repeat (
        refine Quietly.step (fun K hK => ?_)
        go_simp
        first
          | (refine hK _ ?_; clear hK K)
          | (apply Exists.intro
             refine ⟨fun w1 hw1 => ?_, hK _ ?_⟩
             (first | rfl | (rw [unhide C0 w1 hw1]; exact ⟨rfl, rfl⟩) | (go_at_call 18; exact calls_below hw1 (unhide B0 _)))
             clear hK K))
      refine Quietly.nil ?_
      intro w2 hw2
      go_wp2
      go_roundw
      case rel => exact ⟨k + 1, by omega, by go_num, by rw [unhide HST], (unhide HW).trans (hw2.mono (unhide HW).size)⟩
      case measure => simp [intOf]; omega
    · rw [List.take_of_length_le (by omega)]
      go_wp2
      go_ret
      exact ⟨rfl, hbel⟩
end Go.Proofs.Ytolicaaifhfhcaa
namespace Go.Proofs.Ytolicaaifhfhcaa
open Go.RowKit
set_option linter.unusedVariables false
set_option linter.unusedSimpArgs false
set_option maxRecDepth 100000

def replyWord : ByteArray := ⟨#[114, 101, 112, 108, 121]⟩
def answerWord : ByteArray := ⟨#[97, 110, 115, 119, 101, 114]⟩
def replyL (kind count : Int) (d : XDeal) (extra : ByteArray) : List ByteArray := [replyWord, oneT kind, twoT count, dealS d, extra]
def answerL (code : Int) (seal' : ByteArray) : List ByteArray := [answerWord, oneT code, seal']
theorem dealS_size (d : XDeal) : (dealS d).size ≤ 64 := by
  unfold dealS
  by_cases h : dealE d = 0
  · rw [if_pos h]
    obtain ⟨_, _, _, _, _, h8⟩ := deal_in h
    unfold dealT
    have z2 := numS_size d.shop 4; have z3 := numS_size d.trace 4; have z4 := numS_size d.amount 8
    have z6 := oneT_size (flagT d.cash); have z7 := twoT_size d.day; have z8 := twoT_size d.bits
    simp only [ByteArray.size_append]
    omega
  · rw [if_neg h]; decide
theorem trow_new (w : World) (l : List ByteArray) : TRow (w.alloc (.cells (l.map Value.string).toArray 9)) (some ⟨w.heap.size, 0, none⟩) l := by
  refine .inr ⟨w.heap.size, 0, rfl, by simp, fun i s hi => ?_⟩
  rw [cell_of_row _ _ _ _ _ _ (heap_alloc_new w _)]
  simp [hi]
theorem replyL_bulk (kind count : Int) (d : XDeal) (extra : ByteArray) (h : extra.size ≤ 1048576) : bulkT (replyL kind count d extra) ≤ 4194304 := by
  have := dealS_size d
  have e1 := oneT_size kind
  have e2 := twoT_size count
  have e3 : replyWord.size = 5 := rfl
  simp only [replyL, bulkT]
  omega
theorem answerL_bulk (code : Int) (s : ByteArray) (h : s.size ≤ 1048576) : bulkT (answerL code s) ≤ 4194304 := by
  have e1 := oneT_size code
  have e3 : answerWord.size = 6 := rfl
  simp only [answerL, bulkT]
  omega
set_option maxHeartbeats 2000000 in
theorem replyText_any (kind count : Int) (d : XDeal) (extra : ByteArray) (w : World) (hok : okDeal w d) (hx : extra.size ≤ 1048576) :
    Calls Try.prog 9 #[.int .i64 kind, .int .i64 count, valDeal d, .string extra] w fun e w' => e = .returned (.string (rowS (replyL kind count d extra))) ∧ Below w.heap.size w w' := by
  have n1 := fun w' (hb : Below w.heap.size w w') => dealText_any d w' (hok.below hb)
  have n2 := fun w' => tone_any kind w'
  have n3 := fun w' => ttwo_any count w'
  have hbk := replyL_bulk kind count d extra hx
  unfold replyL at hbk ⊢
  have n4 := fun w' => row_any [replyWord, oneT kind, twoT count, dealS d, extra] _ 5 _ (trow_new w' _) hbk
  generalize dealS d = ds at *
  generalize dealE d = de at *
  generalize oneT kind = t1 at *
  generalize twoT count = t2 at *
  obtain ⟨sh, tr, am, ca, dy, bt, no⟩ := d
  unfold valDeal at *
  simp only at *
  generalize rowS [replyWord, t1, t2, ds, extra] = rs at *
  unfold replyWord at *
  have HB := hide ((Below.refl w.heap.size w).alloc (Nat.le_refl _) (.cells #[.int .i64 sh, .int .i64 tr, .int .i64 am, .bool ca, .int .i64 dy, .int .i64 bt, .string no] 28))
  have N1 := hide n1; have N2 := hide n2; have N3 := hide n3; have N4 := hide n4
  clear n1 n2 n3 n4 hbk hok hx
  go_enter Try.func9, Try.ntmps9
  go_wp2_with fail
  refine (unhide N1 _ (unhide HB)).mono ?_
  rintro e w1 ⟨rfl, hb1⟩
  have HB1 := hide ((unhide HB).trans (hb1.mono (unhide HB).size))
  clear hb1
  go_wp2_with fail
  refine (unhide N2 _).mono ?_
  rintro e w2 ⟨rfl, hb2⟩
  have HB2 := hide ((unhide HB1).trans (hb2.mono (unhide HB1).size))
  clear hb2
  go_wp2_with fail
  refine (unhide N3 _).mono ?_
  rintro e w3 ⟨rfl, hb3⟩
  have HB3 := hide ((unhide HB2).trans (hb3.mono (unhide HB2).size))
  clear hb3
  go_wp2_with fail
  refine (unhide N4 _).mono ?_
  rintro e w4 ⟨rfl, hb4⟩
  have HB4 := hide (((unhide HB3).alloc (unhide HB3).size (.cells (List.map Value.string [⟨#[114, 101, 112, 108, 121]⟩, t1, t2, ds, extra]).toArray 9)).trans (hb4.mono (by have := (unhide HB3).size; simp; omega)))
  clear hb4
  go_wp2
  go_ret
  exact ⟨rfl, unhide HB4⟩
set_option maxHeartbeats 2000000 in
theorem answerText_any (code : Int) (sl : ByteArray) (w : World) (hx : sl.size ≤ 1048576) :
    Calls Try.prog 11 #[.int .i64 code, .string sl] w fun e w' => e = .returned (.string (rowS (answerL code sl))) ∧ Below w.heap.size w w' := by
  have n2 := fun w' => tone_any code w'
  have hbk := answerL_bulk code sl hx
  unfold answerL at hbk ⊢
  have n4 := fun w' => row_any [answerWord, oneT code, sl] _ 3 _ (trow_new w' _) hbk
  generalize oneT code = t1 at *
  generalize rowS [answerWord, t1, sl] = rs at *
  unfold answerWord at *
  have N2 := hide n2; have N4 := hide n4
  clear n2 n4 hbk hx
  go_enter Try.func11, Try.ntmps11
  go_wp2_with fail
  refine (unhide N2 _).mono ?_
  rintro e w2 ⟨rfl, hb2⟩
  have HB2 := hide hb2
  clear hb2
  go_wp2_with fail
  refine (unhide N4 _).mono ?_
  rintro e w4 ⟨rfl, hb4⟩
  have HB4 := hide (((unhide HB2).alloc (unhide HB2).size (.cells (List.map Value.string [⟨#[97, 110, 115, 119, 101, 114]⟩, t1, sl]).toArray 9)).trans (hb4.mono (by have := (unhide HB2).size; simp; omega)))
  clear hb4
  go_wp2
  go_ret
  exact ⟨rfl, unhide HB4⟩
theorem bytes_oneC (x : Int) (w : World) :
    Calls Try.prog 19 #[.slice (some ⟨w.heap.size, 0, none⟩) 1 1] (w.alloc (.cells #[.int .i64 x] 3)) fun e w' => e = .returned (.string (oneT x)) ∧ Below (w.heap.size + 1) (w.alloc (.cells #[.int .i64 x] 3)) w' := by
  have := bytes_any [x] w.heap.size 0 1 1 (w.alloc (.cells #[.int .i64 x] 3)) rfl (by omega) (by simp) (fun i hi => by
    have h2 : i = 0 := by omega
    subst h2
    simp)
  rw [World.size_alloc] at this
  exact this
theorem bytes_twoC (x y : Int) (w : World) :
    Calls Try.prog 19 #[.slice (some ⟨w.heap.size, 0, none⟩) 2 2] (w.alloc (.cells #[.int .i64 x, .int .i64 y] 3)) fun e w' => e = .returned (.string (strOfNums [lowByte x, lowByte y])) ∧ Below (w.heap.size + 1) (w.alloc (.cells #[.int .i64 x, .int .i64 y] 3)) w' := by
  have := bytes_any [x, y] w.heap.size 0 2 2 (w.alloc (.cells #[.int .i64 x, .int .i64 y] 3)) rfl (by omega) (by simp) (fun i hi => by
    rcases (show i = 0 ∨ i = 1 by omega) with h2 | h2 <;> subst h2 <;> simp)
  rw [World.size_alloc] at this
  exact this
theorem ext_alC {w x : World} (h : Below w.heap.size w x) (o : Obj) {y : World} (k : Below (x.heap.size + 1) (x.alloc o) y) : Below w.heap.size w y := (h.alloc h.size o).trans (k.mono (Nat.le_succ_of_le h.size))
set_option maxHeartbeats 2000000 in
theorem rreplyText_any (kind count : Int) (d : XDeal) (extra : ByteArray) (w : World) (hx : extra.size ≤ 1048576) :
    Calls Try.prog 10 #[.int .i64 kind, .int .i64 count, valDeal d, .string extra] w fun e w' => e = .returned (.string (rowS (replyL kind count d extra))) ∧ Below w.heap.size w w' := by
  have n1 := fun w' => rdealText_any d w'
  have hbk := replyL_bulk kind count d extra hx
  have hN := rowN_bulk (replyL kind count d extra)
  unfold replyL at hbk hN ⊢
  have n4 := fun w' => rrow_any [replyWord, oneT kind, twoT count, dealS d, extra] _ 5 _ (trow_new w' _) (by omega) (by simp)
  have n2 := fun w' => bytes_oneC kind w'
  have n3 := fun w' => bytes_twoC (count / 256) count w'
  have e3 : strOfNums [lowByte (count / 256), lowByte count] = twoT count := rfl
  rw [e3] at n3
  generalize dealS d = ds at *
  generalize dealE d = de at *
  generalize oneT kind = t1 at *
  generalize twoT count = t2 at *
  obtain ⟨sh, tr, am, ca, dy, bt, no⟩ := d
  unfold valDeal at *
  simp only at *
  generalize rowS [replyWord, t1, t2, ds, extra] = rs at *
  unfold replyWord at *
  have HB := hide ((Below.refl w.heap.size w).alloc (Nat.le_refl _) (.cells #[.int .i64 sh, .int .i64 tr, .int .i64 am, .bool ca, .int .i64 dy, .int .i64 bt, .string no] 28))
  have N1 := hide n1; have N2 := hide n2; have N3 := hide n3; have N4 := hide n4
  clear n1 n2 n3 n4 hbk hx e3 hN
  go_enter Try.func10, Try.ntmps10
  go_wp2_with fail
  refine (unhide N1 _).mono ?_
  rintro e w1 ⟨rfl, hb1⟩
  have HB1 := hide ((unhide HB).trans (hb1.mono (unhide HB).size))
  clear hb1
  go_wp2_with fail
  refine (unhide N2 _).mono ?_
  rintro e w2 ⟨rfl, hb2⟩
  have HB2 := hide (ext_alC (unhide HB1) _ hb2)
  clear hb2
  go_wp2_with fail
  refine (unhide N3 _).mono ?_
  rintro e w3 ⟨rfl, hb3⟩
  have HB3 := hide (ext_alC (unhide HB2) _ hb3)
  clear hb3
  go_wp2_with fail
  refine (unhide N4 _).mono ?_
  rintro e w4 ⟨rfl, hb4⟩
  have HB4 := hide (((unhide HB3).alloc (unhide HB3).size (.cells (List.map Value.string [⟨#[114, 101, 112, 108, 121]⟩, t1, t2, ds, extra]).toArray 9)).trans (hb4.mono (by have := (unhide HB3).size; simp; omega)))
  clear hb4
  go_wp2
  go_ret
  exact ⟨rfl, unhide HB4⟩
set_option maxHeartbeats 2000000 in
theorem ranswerText_any (code : Int) (sl : ByteArray) (w : World) (hx : sl.size ≤ 1048576) :
    Calls Try.prog 12 #[.int .i64 code, .string sl] w fun e w' => e = .returned (.string (rowS (answerL code sl))) ∧ Below w.heap.size w w' := by
  have n2 := fun w' => bytes_oneC code w'
  have hbk := answerL_bulk code sl hx
  have hN := rowN_bulk (answerL code sl)
  unfold answerL at hbk hN ⊢
  have n4 := fun w' => rrow_any [answerWord, oneT code, sl] _ 3 _ (trow_new w' _) (by omega) (by simp)
  generalize oneT code = t1 at *
  generalize rowS [answerWord, t1, sl] = rs at *
  unfold answerWord at *
  have N2 := hide n2; have N4 := hide n4
  clear n2 n4 hbk hx hN
  go_enter Try.func12, Try.ntmps12
  go_wp2_with fail
  refine (unhide N2 _).mono ?_
  rintro e w2 ⟨rfl, hb2⟩
  have HB2 := hide (ext_alC (Below.refl w.heap.size w) _ hb2)
  clear hb2
  go_wp2_with fail
  refine (unhide N4 _).mono ?_
  rintro e w4 ⟨rfl, hb4⟩
  have HB4 := hide (((unhide HB2).alloc (unhide HB2).size (.cells (List.map Value.string [⟨#[97, 110, 115, 119, 101, 114]⟩, t1, sl]).toArray 9)).trans (hb4.mono (by have := (unhide HB2).size; simp; omega)))
  clear hb4
  go_wp2
  go_ret
  exact ⟨rfl, unhide HB4⟩
end Go.Proofs.Ytolicaaifhfhcaa
namespace Go.Proofs.Ytolicaaifhfhcaa
open Go.RowKit
set_option linter.unusedVariables false
set_option linter.unusedSimpArgs false
set_option maxRecDepth 100000

set_option maxHeartbeats 8000000 in
theorem walkPlans (p : XPlan) (d : XDeal) (kind count : Int) (extra : ByteArray) (code : Int) (w : World) (hp : okPlan w p) (hpb : bulkPlan p ≤ 1048576) (hd : okDeal w d) (hx : extra.size ≤ 1048576) :
    Calls Try.prog 3 #[valPlan p, valDeal d, .int .i64 kind, .int .i64 count, .string extra, .int .i64 code] w fun e w' => e = .returned (.bool true) ∧ Below w.heap.size w w' := by
  obtain ⟨id, pin, key, pu, on, ru, tr, ve, ⟨sp, sq⟩, ao, row, cap⟩ := p
  have hpk := hp
  obtain ⟨hi, hpn, hke, _, _, _, _, _, _, hrow⟩ := hpk
  have hfr := frow_fieldC hrow
  have hnum : FNums (row.map pairC) := fun f hf => by
    obtain ⟨y, hy, rfl⟩ := List.mem_map.1 hf
    exact (hrow.2.1 y hy).1.2
  have hlen : ((row.map pairC).length : Int) ≤ 9000000000000 := by
    have h9 : id.size + pin.size + key.size + (sp.size + sq.size) + row.length ≤ 1048576 := hpb
    rw [List.length_map]; omega
  have hll : (row.map pairC).length = row.length := List.length_map ..
  have nC := fun w' (hb : Below w.heap.size w w') => checkPlanC_any id pin key pu on ru tr ve sp sq (row.map pairC) ao cap w' hi hpn (hfr.below hb) hnum hlen
  have nR := fun w' (hb : Below w.heap.size w w') => rplanC_any id pin key pu on ru tr ve sp sq (row.map pairC) ao cap w' hi hpn (hfr.below hb) hnum hlen
  have n1 := fun w' (hb : Below w.heap.size w w') => dealText_any d w' (hd.below hb)
  have n2 := fun w' => rdealText_any d w'
  have n3 := fun w' => checkDeal_any d w'
  have n4 := fun w' (hb : Below w.heap.size w w') => replyText_any kind count d extra w' (hd.below hb) hx
  have n5 := fun w' => rreplyText_any kind count d extra w' hx
  have n6 := fun w' => answerText_any code extra w' hx
  have n7 := fun w' => ranswerText_any code extra w' hx
  rw [hll] at nC nR
  generalize planCE id pin key pu on ru tr ve sp sq (row.map pairC) = pe at *
  generalize rowS (replyL kind count d extra) = rs at *
  generalize rowS (answerL code extra) = as' at *
  generalize dealS d = ds at *
  generalize dealE d = de at *
  obtain ⟨sh, tc, am, ca, dy, bt, no⟩ := d
  show Calls Try.prog 3 #[.agg #[.string id, .string pin, .string key, .int .i64 pu, .int .i64 on, .int .i64 ru, .int .i64 tr, .int .i64 ve, .string sp, .string sq, .slice ao row.length cap], .agg #[.int .i64 sh, .int .i64 tc, .int .i64 am, .bool ca, .int .i64 dy, .int .i64 bt, .string no], .int .i64 kind, .int .i64 count, .string extra, .int .i64 code] w _
  unfold valDeal at *
  simp only at *
  generalize row.length = n at *
  have t1 : (ds.toList == ds.toList) = true := by simp
  have t2 : (pe == pe) = true := by simp
  have t3 : (de == de) = true := by simp
  have t4 : (rs.toList == rs.toList) = true := by simp
  have t5 : (as'.toList == as'.toList) = true := by simp
  obtain ⟨W2, hW2⟩ : ∃ W2, W2 = (w.alloc (.cells #[.string id, .string pin, .string key, .int .i64 pu, .int .i64 on, .int .i64 ru, .int .i64 tr, .int .i64 ve, .string sp, .string sq, .slice ao n cap] 26)).alloc (.cells #[.int .i64 sh, .int .i64 tc, .int .i64 am, .bool ca, .int .i64 dy, .int .i64 bt, .string no] 28) := ⟨_, rfl⟩
  have hB2 : Below w.heap.size w W2 := by rw [hW2]; exact ((Below.refl w.heap.size w).alloc (Nat.le_refl _) _).alloc (by simp) _
  have hX1 : W2.heap[w.heap.size]? = some (.cells #[.string id, .string pin, .string key, .int .i64 pu, .int .i64 on, .int .i64 ru, .int .i64 tr, .int .i64 ve, .string sp, .string sq, .slice ao n cap] 26 (0, 0)) := by
    rw [hW2]
    have hb := (Below.refl (w.heap.size + 1) (w.alloc (.cells #[.string id, .string pin, .string key, .int .i64 pu, .int .i64 on, .int .i64 ru, .int .i64 tr, .int .i64 ve, .string sp, .string sq, .slice ao n cap] 26))).alloc (by simp) (.cells #[.int .i64 sh, .int .i64 tc, .int .i64 am, .bool ca, .int .i64 dy, .int .i64 bt, .string no] 28)
    exact (hb.block w.heap.size (by omega)).trans (heap_alloc_new _ _)
  have hX2 : W2.heap[w.heap.size + 1]? = some (.cells #[.int .i64 sh, .int .i64 tc, .int .i64 am, .bool ca, .int .i64 dy, .int .i64 bt, .string no] 28 (0, 0)) := by
    rw [hW2]
    have := heap_alloc_new (w.alloc (.cells #[.string id, .string pin, .string key, .int .i64 pu, .int .i64 on, .int .i64 ru, .int .i64 tr, .int .i64 ve, .string sp, .string sq, .slice ao n cap] 26)) (.cells #[.int .i64 sh, .int .i64 tc, .int .i64 am, .bool ca, .int .i64 dy, .int .i64 bt, .string no] 28)
    rwa [World.size_alloc] at this
  have hz2 : W2.heap.size = w.heap.size + 1 + 1 := by rw [hW2]; simp
  generalize hB : w.heap.size = B at *
  have hcells : ∀ W, Below W2.heap.size W2 W → W.cell? ⟨B, 0, none⟩ = some (.string id) ∧ W.cell? ⟨B, 1, none⟩ = some (.string pin) ∧ W.cell? ⟨B, 2, none⟩ = some (.string key) ∧ W.cell? ⟨B, 3, none⟩ = some (.int .i64 pu) ∧ W.cell? ⟨B, 4, none⟩ = some (.int .i64 on) ∧ W.cell? ⟨B, 5, none⟩ = some (.int .i64 ru) ∧ W.cell? ⟨B, 6, none⟩ = some (.int .i64 tr) ∧ W.cell? ⟨B, 7, none⟩ = some (.int .i64 ve) ∧ W.cell? ⟨B, 8, none⟩ = some (.string sp) ∧ W.cell? ⟨B, 9, none⟩ = some (.string sq) ∧ W.cell? ⟨B, 10, none⟩ = some (.slice ao n cap) ∧ W.cell? ⟨B + 1, 0, none⟩ = some (.int .i64 sh) ∧ W.cell? ⟨B + 1, 1, none⟩ = some (.int .i64 tc) ∧ W.cell? ⟨B + 1, 2, none⟩ = some (.int .i64 am) ∧ W.cell? ⟨B + 1, 3, none⟩ = some (.bool ca) ∧ W.cell? ⟨B + 1, 4, none⟩ = some (.int .i64 dy) ∧ W.cell? ⟨B + 1, 5, none⟩ = some (.int .i64 bt) ∧ W.cell? ⟨B + 1, 6, none⟩ = some (.string no) := fun W hb => by
    have y1 := (hb.block B (by omega)).trans hX1
    have y2 := (hb.block (B + 1) (by omega)).trans hX2
    exact ⟨cell_of_row _ _ 0 _ _ _ y1, cell_of_row _ _ 1 _ _ _ y1, cell_of_row _ _ 2 _ _ _ y1, cell_of_row _ _ 3 _ _ _ y1, cell_of_row _ _ 4 _ _ _ y1, cell_of_row _ _ 5 _ _ _ y1, cell_of_row _ _ 6 _ _ _ y1, cell_of_row _ _ 7 _ _ _ y1, cell_of_row _ _ 8 _ _ _ y1, cell_of_row _ _ 9 _ _ _ y1, cell_of_row _ _ 10 _ _ _ y1, cell_of_row _ _ 0 _ _ _ y2, cell_of_row _ _ 1 _ _ _ y2, cell_of_row _ _ 2 _ _ _ y2, cell_of_row _ _ 3 _ _ _ y2, cell_of_row _ _ 4 _ _ _ y2, cell_of_row _ _ 5 _ _ _ y2, cell_of_row _ _ 6 _ _ _ y2⟩
  have HC := hide hcells
  have NC := hide nC; have NR := hide nR; have N1 := hide n1; have N2 := hide n2; have N3 := hide n3; have N4 := hide n4; have N5 := hide n5; have N6 := hide n6; have N7 := hide n7
  have HW2 := hide hW2; have HB2 := hide hB2
  clear hcells nC nR n1 n2 n3 n4 n5 n6 n7 hX1 hX2 hz2 hW2 hB2 hp hpb hd hx hi hpn hke hrow hfr hnum hlen hll
  go_enter Try.func3, Try.ntmps3
  go_upto_region 1 with fail
  try rw [hB]
  rw [← unhide HW2]
  obtain ⟨c0, c1, c2, c3, c4, c5, c6, c7, c8, c9, c10, c11, c12, c13, c14, c15, c16, c17⟩ := unhide HC _ (Below.refl _ _)
  go_wp2_with fail
  refine (unhide N1 _ (unhide HB2)).mono ?_
  rintro e w1 ⟨rfl, hb1⟩
  clear c0 c1 c2 c3 c4 c5 c6 c7 c8 c9 c10 c11 c12 c13 c14 c15 c16 c17
  obtain ⟨c0, c1, c2, c3, c4, c5, c6, c7, c8, c9, c10, c11, c12, c13, c14, c15, c16, c17⟩ := unhide HC _ hb1
  have K1 := hide hb1
  clear hb1
  go_wp2_with fail
  refine (unhide N2 _).mono ?_
  rintro e w2 ⟨rfl, hb2⟩
  clear c0 c1 c2 c3 c4 c5 c6 c7 c8 c9 c10 c11 c12 c13 c14 c15 c16 c17
  have K2 := hide ((unhide K1).trans (hb2.mono (unhide K1).size))
  clear hb2 K1
  go_upto_region 3 with fail
  have hS0 := unhide HC _ (unhide K2).drew
  have KB := hide (fun W (hb : Below W2.heap.size W2 W) => (unhide HB2).trans (hb.mono (by have := (unhide HB2).size; omega)))
  go_cut [12] (fun v wx => v = .bool true ∧ Below B w wx)
  case first =>
    go_wp2_with fail
    go_region_held3 (fun W => W.cell? ⟨B, 0, none⟩ = some (.string id) ∧ W.cell? ⟨B, 1, none⟩ = some (.string pin) ∧ W.cell? ⟨B, 2, none⟩ = some (.string key) ∧ W.cell? ⟨B, 3, none⟩ = some (.int .i64 pu) ∧ W.cell? ⟨B, 4, none⟩ = some (.int .i64 on) ∧ W.cell? ⟨B, 5, none⟩ = some (.int .i64 ru) ∧ W.cell? ⟨B, 6, none⟩ = some (.int .i64 tr) ∧ W.cell? ⟨B, 7, none⟩ = some (.int .i64 ve) ∧ W.cell? ⟨B, 8, none⟩ = some (.string sp) ∧ W.cell? ⟨B, 9, none⟩ = some (.string sq) ∧ W.cell? ⟨B, 10, none⟩ = some (.slice ao n cap) ∧ W.cell? ⟨B + 1, 0, none⟩ = some (.int .i64 sh) ∧ W.cell? ⟨B + 1, 1, none⟩ = some (.int .i64 tc) ∧ W.cell? ⟨B + 1, 2, none⟩ = some (.int .i64 am) ∧ W.cell? ⟨B + 1, 3, none⟩ = some (.bool ca) ∧ W.cell? ⟨B + 1, 4, none⟩ = some (.int .i64 dy) ∧ W.cell? ⟨B + 1, 5, none⟩ = some (.int .i64 bt) ∧ W.cell? ⟨B + 1, 6, none⟩ = some (.string no))
      (first | (with_reducible exact hS0) | (with_reducible exact unhide HC _ b7) | (with_reducible exact unhide HC _ b6) | (with_reducible exact unhide HC _ b5) | (with_reducible exact unhide HC _ b4) | (with_reducible exact unhide HC _ b3) | (with_reducible exact unhide HC _ b2) | (with_reducible exact unhide HC _ b1) | exact hS0 | go_keep)
      ((first
        | (have hq := b6; go_at_call 12; refine (unhide N7 _).mono ?_; rintro e z7 ⟨rfl, k7⟩; have b7 : Below W2.heap.size W2 z7 := b6.trans (k7.mono b6.size))
        | (have hq := b5; go_at_call 11; refine (unhide N6 _).mono ?_; rintro e z6 ⟨rfl, k6⟩; have b6 : Below W2.heap.size W2 z6 := b5.trans (k6.mono b5.size))
        | (have hq := b4; go_at_call 10; refine (unhide N5 _).mono ?_; rintro e z5 ⟨rfl, k5⟩; have b5 : Below W2.heap.size W2 z5 := b4.trans (k5.mono b4.size))
        | (have hq := b3; go_at_call 9; refine (unhide N4 _ (unhide KB _ b3)).mono ?_; rintro e z4 ⟨rfl, k4⟩; have b4 : Below W2.heap.size W2 z4 := b3.trans (k4.mono b3.size))
        | (have hq := b2; go_at_call 8; refine (unhide N3 _).mono ?_; rintro e z3 ⟨rfl, k3⟩; have b3 : Below W2.heap.size W2 z3 := b2.trans (k3.mono b2.size))
        | (have hq := b1; go_at_call 7; refine (unhide NR _ (unhide KB _ b1)).mono ?_; rintro e z2 ⟨rfl, k2⟩; have b2 : Below W2.heap.size W2 z2 := b1.trans (k2.mono b1.size))
        | (go_at_call 6; refine (unhide NC _ (unhide KB _ (unhide K2).drew)).mono ?_; rintro e z1 ⟨rfl, k1⟩; have b1 : Below W2.heap.size W2 z1 := (unhide K2).drew.trans (k1.mono (unhide K2).size))))
    all_goals
      have HF := hide (unhide KB _ b7)
      go_wp2
      go_meet
      exact ⟨rfl, unhide HF⟩
  case rest =>
    obtain ⟨rfl, hbz⟩ := hcut
    go_wp2
    go_ret
    exact ⟨rfl, hbz⟩
end Go.Proofs.Ytolicaaifhfhcaa
