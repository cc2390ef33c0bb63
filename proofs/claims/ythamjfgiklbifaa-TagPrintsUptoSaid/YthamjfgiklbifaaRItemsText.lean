/- itemsText of the reference. -/
import Derived.Test.YthamjfgiklbifaaRFormed
namespace Go.Proofs.Ythamjfgiklbifaa
open Go.RowKit
set_option linter.unusedVariables false

theorem strL_back (s : ByteArray) : strOfNums (strL s) = s := by
  apply ByteArray.ext
  apply Array.toList_inj.1
  have e : (strOfNums (strL s)).data.toList = (strL s).map fun n => UInt8.ofNat n.toNat := by simp [strOfNums]
  rw [e]
  unfold strL
  rw [List.map_map]
  conv => rhs; rw [← List.map_id s.data.toList]
  refine List.map_congr_left fun u _ => ?_
  simp
theorem text_app (pre : List Int) (tn : Nat) (TX : ByteArray) : strOfNums pre ++ (strOfNums (bigL tn (tagLen tn)) ++ sizedS TX) = strOfNums (pre ++ itemL tn (strL TX)) := by
  unfold sizedS itemL
  rw [strL_length]
  rw [← strOfNums_append, ← strOfNums_append, ← strOfNums_append, strL_back]
theorem sized_size (s : ByteArray) : (sizedS s).size = lenLen s.size + s.size := by unfold sizedS; rw [ByteArray.size_append, strOfNums_size, lenL_length]
def txtV (n : Nat) (T : List Int) : Value := if n ≤ 65535 then .tuple #[.string (strOfNums T), .bool true] else .tuple #[.string ⟨#[]⟩, .bool false]
theorem ret_txt {n : Nat} {T : List Int} (h : n ≤ 65535) : Ending.returned (.tuple #[.string (strOfNums T), .bool true]) = .returned (txtV n T) := by unfold txtV; rw [if_pos h]
theorem ret_txt_no {n : Nat} {T : List Int} (h : 65535 < n) : Ending.returned (.tuple #[.string ⟨#[]⟩, .bool false]) = .returned (txtV n T) := by unfold txtV; rw [if_neg (by omega)]

set_option maxRecDepth 1000000 in
set_option maxHeartbeats 8000000 in
theorem itemsText_any : ∀ (d : Nat) (l : List It) (ao : Option Addr) (cap : Nat) (w : World) (sz p : Nat), IRow w d ao l → wt d l ≤ 1048576 → measD d l = some (sz, p) →
    Calls Try.prog 14 #[.slice ao l.length cap] w fun e w' => e = .returned (txtV sz (textD d l)) ∧ Below w.heap.size w w'
  | 0, l, ao, cap, w, sz, p, hr, hw, hm => by
    have hl : l = [] := hr
    subst hl
    have hz : sz = 0 := by simp [measD] at hm; omega
    subst hz
    clear hr hw hm
    go_enter Try.func14, Try.ntmps14
    go_wp2
    go_loopw [4, 5] (fun sv i wr => sv = .string ⟨#[]⟩ ∧ i = .int .i64 0 ∧ Below w.heap.size w wr) (fun _ _ _ => 0)
    case atStart => exact ⟨rfl, rfl, Below.refl _ _⟩
    case round =>
      obtain ⟨rfl, rfl, hbw⟩ := hrel
      go_wp2
      go_ret2
      exact ⟨rfl, hbw⟩
  | d + 1, l, ao, cap, w, sz, p, hr, hw, hm => by
    have hlen := hr.length_le
    have hlm : (l.length : Int) ≤ 1048576 := by omega
    have htl := meas_text (d + 1) l sz p hm
    have hzl := (meas_le (d + 1) l sz p hm).1
    have hzm : sz ≤ 7340032 := by omega
    have IH := hide (itemsText_any d)
    have HM := hide hm; have HT := hide htl; have HW := hide hw; have HZ := hide hzm
    clear hm htl hw hlen hzl hzm
    go_enter Try.func14, Try.ntmps14
    go_wp2
    go_loopw [4, 5] (fun sv i wr => ∃ k : Nat, k ≤ l.length ∧ sv = .string (strOfNums (textD (d + 1) (l.take k))) ∧ i = .int .i64 k ∧ (textD (d + 1) (l.take k)).length ≤ 65535 ∧ Below w.heap.size w wr) (fun _ i _ => l.length - (intOf i).toNat)
    case atStart => exact ⟨0, Nat.zero_le _, rfl, rfl, by simp [textD], Below.refl _ _⟩
    case round =>
      rename World => wo
      obtain ⟨k, hk, rfl, rfl, hpl, hbw⟩ := hrel
      by_cases hlt : k < l.length
      · rcases hr with hnil | ⟨b, off, rfl, hb, hc⟩
        · rw [hnil] at hlt; simp at hlt
        obtain ⟨x, hx⟩ : ∃ x, l[k]? = some x := ⟨_, List.getElem?_eq_getElem hlt⟩
        obtain ⟨co, cc, c0, c1, c2, hcc, hsub, htag, htxt⟩ := hc k x hx
        obtain ⟨hf, b1, b2, hmx⟩ := fold_item l k x 0 0 sz p (unhide HM) hx
        have hbody := fits_body hf hmx (meas_text d _ _ _ hmx)
        have hnx := text_take (d := d) hx
        have hpre := text_take_le (d := d) l (k + 1)
        rw [unhide HT] at hpre
        have hil := itemL_length x.tag.toNat (bodyL (textD d) x)
        have hpre2 := hpre
        rw [hnx, List.length_append, hil, hbody] at hpre2
        have hwx := wt_get (d := d) hx
        have hww := unhide HW
        have d0 : wo.cell? ⟨b, off + k * 3, none⟩ = _ := (hbw.cell (p := ⟨b, off + k * 3, none⟩) hb).trans c0
        have d1 : wo.cell? ⟨b, off + k * 3 + 1, none⟩ = _ := (hbw.cell (p := ⟨b, off + k * 3 + 1, none⟩) hb).trans c1
        have d2 : wo.cell? ⟨b, off + k * 3 + 2, none⟩ = _ := (hbw.cell (p := ⟨b, off + k * 3 + 2, none⟩) hb).trans c2
        have hbk : b < wo.heap.size := World.block_lt_of_cell? _ _ d0
        have hvt : validB x.tag = true := by
          unfold fitsB at hf
          split at hf
          · rename_i hm; unfold madeV at hm; simp at hm; exact hm.1
          · simp at hf; exact hf.1
        obtain ⟨hv1, hv2⟩ := validB_lt hvt
        have N2 := hide (fun (w2 : World) (h : Below w.heap.size w w2) => unhide IH x.list co cc w2 b1 b2 (IRow.below h d hsub) (by omega) hmx)
        have hbd : bodyL (textD d) x = if madeV x.tag = true then textD d x.list else strL x.text := rfl
        have htb : b1 ≤ 65535 → Bytes (textD d x.list) := fun h => text_bytes d _ _ _ hmx h
        have htll := meas_text d _ _ _ hmx
        generalize x.tag = xt at *
        generalize x.text = xs at *
        generalize x.list.length = xn at *
        generalize textD d x.list = xtx at *
        obtain ⟨tn, rfl⟩ := Int.eq_ofNat_of_zero_le (show 0 ≤ xt by omega)
        rw [Int.toNat_natCast] at hnx hpre2
        have hmv : madeV (tn : Int) = madeB tn := by unfold madeV; rw [hvt, Bool.true_and, Int.toNat_natCast]
        rw [hmv] at hbd
        have n1 := fun w => rmade_any tn w (by omega)
        have N3 := hide (fun w => tagText_any tn w (by omega))
        generalize bodyL (textD d) x = bd at *
        generalize hpe : textD (d + 1) (l.take k) = pre at *
        clear c0 c1 c2 hc hsub hx hf hmx hvt hv1 hv2 hmv hww hwx hil htag
        cases hmd : madeB tn with
        | true =>
          rw [hmd] at n1 hbd
          simp only [if_true] at hbd
          have N1 := hide n1
          rw [hbd, htll] at hbody
          by_cases hbig : 65535 < b1
          · have HB := hide (show 65535 < sz by omega)
            have htv : txtV b1 xtx = .tuple #[.string ⟨#[]⟩, .bool false] := by unfold txtV; rw [if_neg (by omega)]
            rw [htv] at N2
            clear n1 hbd hmd hpre hpre2 hnx htb hbody htll N3 hbig hpl hpe htv
            go_wp2_with fail
            refine (unhide N1 _).mono ?_
            rintro e w2 ⟨rfl, hb2⟩
            have e2 : w2.cell? ⟨b, off + k * 3 + 2, none⟩ = _ := (hb2.cell (p := ⟨b, off + k * 3 + 2, none⟩) hbk).trans d2
            have e0 : w2.cell? ⟨b, off + k * 3, none⟩ = _ := (hb2.cell (p := ⟨b, off + k * 3, none⟩) hbk).trans d0
            have hbw2 := below_more hbw hbw.size hb2
            have hbk2 : b < w2.heap.size := Nat.lt_of_lt_of_le hbk hb2.size
            clear hbw hb2
            go_wp2_with fail
            refine (unhide N2 _ hbw2).mono ?_
            rintro e w3 ⟨he, hb3⟩
            have f0 : w3.cell? ⟨b, off + k * 3, none⟩ = _ := (hb3.cell (p := ⟨b, off + k * 3, none⟩) hbk2).trans e0
            have hbw3 := below_more hbw2 hbw2.size hb3
            clear hbw2 hb3
            subst he
            go_wp2
            go_ret2
            exact ⟨ret_txt_no (unhide HB), hbw3⟩
          · have htv : txtV b1 xtx = .tuple #[.string (strOfNums xtx), .bool true] := by unfold txtV; rw [if_pos (by omega)]
            rw [htv] at N2
            have hst := strL_nums (htb (by omega))
            have hbd2 : bd = strL (strOfNums xtx) := by rw [hbd, hst]
            have hts : (strOfNums xtx).size = b1 := by rw [strOfNums_size, htll]
            generalize strOfNums xtx = TX at *
            have t1 : decide ((65535 : Int) < (TX.size : Int)) = false := decide_eq_false (by omega)
            have t2 : (TX.size : Int) ≤ 65535 := by omega
            have N4 := hide (fun w => sized_any TX w (by omega))
            have happ := text_app pre tn TX
            rw [← hbd2, ← hnx] at happ
            have z3 := tagLen_le tn
            have z4 := lenLen_le TX.size
            have y1 : (strOfNums (bigL tn (tagLen tn))).size = tagLen tn := by rw [strOfNums_size, bigL_length]
            have y2 := sized_size TX
            have y3 : (strOfNums pre).size = pre.length := strOfNums_size _
            have y4 : (strOfNums (textD (d + 1) (l.take (k + 1)))).size = (textD (d + 1) (l.take (k + 1))).length := strOfNums_size _
            have ha1 := fun w' => run_string_add_sum (P := Try.prog) w' (strOfNums (bigL tn (tagLen tn))) (sizedS TX) (by omega)
            have ha2 := fun w' => run_string_add_sum (P := Try.prog) w' (strOfNums pre) (strOfNums (bigL tn (tagLen tn)) ++ sizedS TX) (by rw [ByteArray.size_append]; omega)
            rw [happ] at ha2
            generalize strOfNums pre = A at *
            generalize strOfNums (bigL tn (tagLen tn)) = B at *
            generalize sizedS TX = C at *
            generalize hD : strOfNums (textD (d + 1) (l.take (k + 1))) = D at *
            have HD := hide hD
            have hdm : (D.size : Int) ≤ 7340032 := by have := unhide HZ; omega
            have HY := hide y4; have HPR := hide hpre
            clear n1 hbd hmd hpre hpre2 hnx htb hbody htll hpl hpe y1 y2 y3 y4 z3 z4 happ hD hbig htv hst hbd2 hts
            by_cases hlast : 65535 < D.size
            · have t9 : decide ((65535 : Int) < (D.size : Int)) = true := decide_eq_true (by omega)
              go_wp2_with fail
              refine (unhide N1 _).mono ?_
              rintro e w2 ⟨rfl, hb2⟩
              have e2 : w2.cell? ⟨b, off + k * 3 + 2, none⟩ = _ := (hb2.cell (p := ⟨b, off + k * 3 + 2, none⟩) hbk).trans d2
              have e0 : w2.cell? ⟨b, off + k * 3, none⟩ = _ := (hb2.cell (p := ⟨b, off + k * 3, none⟩) hbk).trans d0
              have hbw2 := below_more hbw hbw.size hb2
              have hbk2 : b < w2.heap.size := Nat.lt_of_lt_of_le hbk hb2.size
              clear hbw hb2
              go_wp2_with fail
              refine (unhide N2 _ hbw2).mono ?_
              rintro e w3 ⟨he, hb3⟩
              have f0 : w3.cell? ⟨b, off + k * 3, none⟩ = _ := (hb3.cell (p := ⟨b, off + k * 3, none⟩) hbk2).trans e0
              have hbw3 := below_more hbw2 hbw2.size hb3
              clear hbw2 hb3
              subst he
              go_wp2_with fail
              refine (unhide N3 _).mono ?_
              rintro e w4 ⟨rfl, hb4⟩
              have hbw4 := below_more hbw3 hbw3.size hb4
              go_wp2_with fail
              refine (unhide N4 _).mono ?_
              rintro e w5 ⟨rfl, hb5⟩
              have hbw5 := below_more hbw4 hbw4.size hb5
              clear hb4 hb5 hbw4
              go_wp2
              go_ret2
              exact ⟨ret_txt_no (by have := unhide HY; have := unhide HPR; omega), hbw5⟩
            · have t9 : decide ((65535 : Int) < (D.size : Int)) = false := decide_eq_false (by omega)
              go_wp2_with fail
              refine (unhide N1 _).mono ?_
              rintro e w2 ⟨rfl, hb2⟩
              have e2 : w2.cell? ⟨b, off + k * 3 + 2, none⟩ = _ := (hb2.cell (p := ⟨b, off + k * 3 + 2, none⟩) hbk).trans d2
              have e0 : w2.cell? ⟨b, off + k * 3, none⟩ = _ := (hb2.cell (p := ⟨b, off + k * 3, none⟩) hbk).trans d0
              have hbw2 := below_more hbw hbw.size hb2
              have hbk2 : b < w2.heap.size := Nat.lt_of_lt_of_le hbk hb2.size
              clear hbw hb2
              go_wp2_with fail
              refine (unhide N2 _ hbw2).mono ?_
              rintro e w3 ⟨he, hb3⟩
              have f0 : w3.cell? ⟨b, off + k * 3, none⟩ = _ := (hb3.cell (p := ⟨b, off + k * 3, none⟩) hbk2).trans e0
              have hbw3 := below_more hbw2 hbw2.size hb3
              clear hbw2 hb3
              subst he
              go_wp2_with fail
              refine (unhide N3 _).mono ?_
              rintro e w4 ⟨rfl, hb4⟩
              have hbw4 := below_more hbw3 hbw3.size hb4
              go_wp2_with fail
              refine (unhide N4 _).mono ?_
              rintro e w5 ⟨rfl, hb5⟩
              have hbw5 := below_more hbw4 hbw4.size hb5
              clear hb4 hb5 hbw4
              go_wp2
              go_roundw
              case rel => exact ⟨k + 1, by omega, by rw [unhide HD], by go_num, by have := unhide HY; omega, hbw5⟩
              case measure => simp [intOf]; omega
        | false =>
          rw [hmd] at n1 hbd
          simp only [Bool.false_eq_true, if_false] at hbd
          have N1 := hide n1
          rw [hbd, strL_length] at hbody
          have hx1 : b1 = 0 := by omega
          subst hx1
          by_cases hbig : 65535 < xs.size
          · have HB := hide (show 65535 < sz by omega)
            have t1 : decide ((65535 : Int) < (xs.size : Int)) = true := decide_eq_true (by omega)
            clear n1 hbd hmd hpre hpre2 hnx htb hbody htll N2 N3 hbig hpl hpe
            go_wp2_with fail
            refine (unhide N1 _).mono ?_
            rintro e w2 ⟨rfl, hb2⟩
            go_wp2
            go_ret2
            exact ⟨ret_txt_no (unhide HB), below_more hbw hbw.size hb2⟩
          · have t1 : decide ((65535 : Int) < (xs.size : Int)) = false := decide_eq_false (by omega)
            have N4 := hide (fun w => sized_any xs w (by omega))
            have happ := text_app pre tn xs
            rw [← hbd, ← hnx] at happ
            have z3 := tagLen_le tn
            have z4 := lenLen_le xs.size
            have y1 : (strOfNums (bigL tn (tagLen tn))).size = tagLen tn := by rw [strOfNums_size, bigL_length]
            have y2 := sized_size xs
            have y3 : (strOfNums pre).size = pre.length := strOfNums_size _
            have y4 : (strOfNums (textD (d + 1) (l.take (k + 1)))).size = (textD (d + 1) (l.take (k + 1))).length := strOfNums_size _
            have ha1 := fun w' => run_string_add_sum (P := Try.prog) w' (strOfNums (bigL tn (tagLen tn))) (sizedS xs) (by omega)
            have ha2 := fun w' => run_string_add_sum (P := Try.prog) w' (strOfNums pre) (strOfNums (bigL tn (tagLen tn)) ++ sizedS xs) (by rw [ByteArray.size_append]; omega)
            rw [happ] at ha2
            generalize strOfNums pre = A at *
            generalize strOfNums (bigL tn (tagLen tn)) = B at *
            generalize sizedS xs = C at *
            generalize hD : strOfNums (textD (d + 1) (l.take (k + 1))) = D at *
            have HD := hide hD
            have hdm : (D.size : Int) ≤ 7340032 := by have := unhide HZ; omega
            have HY := hide y4; have HPR := hide hpre
            clear n1 hbd hmd hpre hpre2 hnx htb hbody htll hpl hpe y1 y2 y3 y4 z3 z4 happ hD N2 hbig
            by_cases hlast : 65535 < D.size
            · have t9 : decide ((65535 : Int) < (D.size : Int)) = true := decide_eq_true (by omega)
              go_wp2_with fail
              refine (unhide N1 _).mono ?_
              rintro e w2 ⟨rfl, hb2⟩
              have e0 : w2.cell? ⟨b, off + k * 3, none⟩ = _ := (hb2.cell (p := ⟨b, off + k * 3, none⟩) hbk).trans d0
              have hbw2 := below_more hbw hbw.size hb2
              clear hbw hb2
              go_wp2_with fail
              refine (unhide N3 _).mono ?_
              rintro e w4 ⟨rfl, hb4⟩
              have hbw4 := below_more hbw2 hbw2.size hb4
              go_wp2_with fail
              refine (unhide N4 _).mono ?_
              rintro e w5 ⟨rfl, hb5⟩
              have hbw5 := below_more hbw4 hbw4.size hb5
              clear hb4 hb5 hbw4
              go_wp2
              go_ret2
              exact ⟨ret_txt_no (by have := unhide HY; have := unhide HPR; omega), hbw5⟩
            · have t9 : decide ((65535 : Int) < (D.size : Int)) = false := decide_eq_false (by omega)
              go_wp2_with fail
              refine (unhide N1 _).mono ?_
              rintro e w2 ⟨rfl, hb2⟩
              have e0 : w2.cell? ⟨b, off + k * 3, none⟩ = _ := (hb2.cell (p := ⟨b, off + k * 3, none⟩) hbk).trans d0
              have hbw2 := below_more hbw hbw.size hb2
              clear hbw hb2
              go_wp2_with fail
              refine (unhide N3 _).mono ?_
              rintro e w4 ⟨rfl, hb4⟩
              have hbw4 := below_more hbw2 hbw2.size hb4
              go_wp2_with fail
              refine (unhide N4 _).mono ?_
              rintro e w5 ⟨rfl, hb5⟩
              have hbw5 := below_more hbw4 hbw4.size hb5
              clear hb4 hb5 hbw4
              go_wp2
              go_roundw
              case rel => exact ⟨k + 1, by omega, by rw [unhide HD], by go_num, by have := unhide HY; omega, hbw5⟩
              case measure => simp [intOf]; omega
      · have hke : k = l.length := by omega
        subst hke
        rw [List.take_length] at hpl ⊢
        have HQ := hide (show sz ≤ 65535 by rw [← unhide HT]; exact hpl)
        clear hpl
        go_wp2
        go_ret2
        exact ⟨ret_txt (unhide HQ), hbw⟩
end Go.Proofs.Ythamjfgiklbifaa
