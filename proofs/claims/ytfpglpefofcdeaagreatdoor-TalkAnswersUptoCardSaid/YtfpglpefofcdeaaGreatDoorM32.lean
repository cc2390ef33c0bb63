/- AppsText of the reference: the walk. -/
import Derived.Test.YtfpglpefofcdeaaGreatDoorM12
namespace Go.Proofs.YtfpglpefofcdeaaGreatDoor
open Go.RowKit
set_option linter.unusedVariables false

theorem ext_drewS {W x : World} (h : Below W.heap.size W x) : Below W.heap.size W x.drew := h.drew
set_option maxRecDepth 100000 in
set_option maxHeartbeats 8000000 in
theorem appsText_any (l : List XApp) (ao : Option Addr) (cap : Nat) (w : World) (hr : RowApp w ao l) :
    Calls Tryz.prog 23 #[.slice ao l.length cap] w fun e w' => e = .returned (.tuple #[.string (appsS l), .int .i64 (appsE l)]) ∧ Below w.heap.size w w' := by
  have n1 := rapps_any l ao cap w hr
  by_cases he : appsE l = 0
  case neg =>
    have HS : Hid (appsS l = ⟨#[]⟩) := hide (by rw [appsS, if_neg he])
    have t1 : (appsE l != 0) = true := by simpa using he
    generalize appsE l = ae at *
    have N1 := hide n1
    clear n1 hr he
    go_enter Tryz.func23, Tryz.ntmps23
    go_wp2_with fail
    refine (unhide N1).mono ?_
    rintro e w1 ⟨rfl, hb1⟩
    go_wp2
    go_ret2
    exact ⟨ret_pairQ (unhide HS).symm rfl, hb1⟩
  have HS : Hid (appsS l = refT l) := hide (by rw [appsS, if_pos he, refT_all he])
  obtain ⟨h20, hsz⟩ := apps_sized he
  rw [he] at n1 ⊢
  have HR := hide hr.1
  have N1 := hide n1
  have HSZ := hide hsz
  have h20i : (l.length : Int) ≤ 20 := by omega
  clear n1 hr he hsz
  go_enter Tryz.func23, Tryz.ntmps23
  go_wp2_with fail
  refine (unhide N1).mono ?_
  rintro e w1 ⟨rfl, hb1⟩
  go_wp2
  go_loopw [5, 17] (fun s i wr => ∃ k : Nat, k ≤ l.length ∧ s = .string (refT (l.take k)) ∧ i = .int .i64 k ∧ Below w.heap.size w wr) (fun _ i _ => l.length - (intOf i).toNat)
  case atStart => exact ⟨0, Nat.zero_le _, rfl, rfl, hb1⟩
  case round =>
    clear hb1
    obtain ⟨k, hk, rfl, rfl, hbw⟩ := hrel
    by_cases hlt : k < l.length
    · obtain ⟨x, hx⟩ : ∃ x, l[k]? = some x := ⟨_, List.getElem?_eq_getElem hlt⟩
      have hki : (k : Int) < (l.length : Int) := by omega
      rcases unhide HR with hn | ⟨b, off, rfl, hbl, hcl⟩
      · rw [hn] at hlt; simp at hlt
      obtain ⟨c0, c1, c2, c3⟩ := hcl k x hx
      obtain ⟨hsx, _, hp0, hp1⟩ := (unhide HSZ) x (List.mem_of_getElem? hx)
      have hnx := refT_next l k x hx hsx hp0 hp1
      have hts := refT_size l k (fun y hy => ⟨((unhide HSZ) y hy).1, ((unhide HSZ) y hy).2.2⟩) hk
      have hin := inS_size x
      have hlb := last_byte hp0 hp1
      have d0 := (hbw.cell (p := ⟨b, off + k * 4, none⟩) hbl).trans c0
      have d1 := (hbw.cell (p := ⟨b, off + k * 4 + 1, none⟩) hbl).trans c1
      have d2 := (hbw.cell (p := ⟨b, off + k * 4 + 2, none⟩) hbl).trans c2
      have d3 := (hbw.cell (p := ⟨b, off + k * 4 + 3, none⟩) hbl).trans c3
      obtain ⟨hs1, hs2⟩ := hsx
      have hiS : inS x = strOfNums [79, (x.name.size : Int)] ++ x.name ++ strOfNums [80, (x.label.size : Int)] ++ x.label ++ strOfNums [135, 1, lastN x] := rfl
      have hla : lastN x = x.prio + (if x.confirm then 128 else 0) := rfl
      have n2 := fun b cap w c0 c1 => bytesP2 79 x.name.size (by omega) (by omega) b cap w c0 c1
      have n3 := fun b cap w c0 c1 => bytesP2 80 x.label.size (by omega) (by omega) b cap w c0 c1
      have n4 := fun b cap w c0 c1 c2 => bytesP3 135 1 (lastN x) (by omega) (by omega) hlb b cap w c0 c1 c2
      have n5 := fun b cap w c0 c1 => bytesP2 97 (inS x).size (by omega) (by omega) b cap w c0 c1
      have z2 : (strOfNums [79, (x.name.size : Int)]).size = 2 := by rw [strOfNums_size]; rfl
      have z3 : (strOfNums [80, (x.label.size : Int)]).size = 2 := by rw [strOfNums_size]; rfl
      have z4 : (strOfNums [135, 1, lastN x]).size = 3 := by rw [strOfNums_size]; rfl
      have z5 : (strOfNums [97, ((inS x).size : Int)]).size = 2 := by rw [strOfNums_size]; rfl
      generalize strOfNums [79, (x.name.size : Int)] = a2 at *
      generalize strOfNums [80, (x.label.size : Int)] = a3 at *
      generalize strOfNums [135, 1, lastN x] = a4 at *
      generalize strOfNums [97, ((inS x).size : Int)] = a5 at *
      obtain ⟨nm, lb, pr, cf⟩ := x
      simp only at *
      generalize inS ⟨nm, lb, pr, cf⟩ = ins at *
      generalize lastN ⟨nm, lb, pr, cf⟩ = la at *
      generalize refT (l.take k) = s0 at *
      have ha1 := fun w' => run_string_add_sum (P := Tryz.prog) w' a2 nm (by omega)
      have ha2 := fun w' => run_string_add_sum (P := Tryz.prog) w' (a2 ++ nm) a3 (by rw [ByteArray.size_append]; omega)
      have ha3 := fun w' => run_string_add_sum (P := Tryz.prog) w' (a2 ++ nm ++ a3) lb (by simp only [ByteArray.size_append]; omega)
      have ha4 := fun w' => run_string_add_sum (P := Tryz.prog) w' (a2 ++ nm ++ a3 ++ lb) a4 (by simp only [ByteArray.size_append]; omega)
      have ha5 := fun w' => run_string_add_sum (P := Tryz.prog) w' a5 ins (by omega)
      have ha6 := fun w' => run_string_add_sum (P := Tryz.prog) w' s0 (a5 ++ ins) (by simp only [ByteArray.size_append]; omega)
      obtain ⟨W, hW⟩ : ∃ W, W = wr.alloc (.cells #[.string nm, .string lb, .int .i64 pr, .bool cf] 90) := ⟨_, rfl⟩
      have hbW : Below w.heap.size w W := by rw [hW]; exact hbw.alloc hbw.size _
      have q0 : W.cell? ⟨wr.heap.size, 0, none⟩ = some (.string nm) := by rw [hW]; exact new_cellQ rfl rfl
      have q1 : W.cell? ⟨wr.heap.size, 1, none⟩ = some (.string lb) := by rw [hW]; exact new_cellQ rfl rfl
      have N2 := hide n2; have N3 := hide n3; have N4 := hide n4; have N5 := hide n5
      have HW := hide hW; have HNX := hide hnx; have HBW := hide hbW; have HIS := hide hiS
      clear n2 n3 n4 n5 hW hnx hbW hbw hiS c0 c1 c2 c3 hcl hx hs1 hs2 hlb hin hts z2 z3 z4 z5
      have HLA := hide hla
      clear hla
      go_upto_if 24 with fail
      rw [← unhide HW]
      go_cut [8] (fun v wx => v = .int .i64 la ∧ wx = W)
      case first =>
        have q3 : W.cell? ⟨wr.heap.size, 3, none⟩ = some (.bool cf) := by rw [unhide HW]; exact new_cellQ rfl rfl
        cases cf with
        | false =>
          have hla2 : pr = la := by rw [unhide HLA]; simp
          have HL2 := hide hla2
          clear hla2 HLA
          go_wp2
          go_meet
          exact ⟨by rw [unhide HL2], rfl⟩
        | true =>
          have hla2 : pr + 128 = la := by rw [unhide HLA]; simp
          have HL2 := hide hla2
          clear hla2 HLA
          go_wp2
          go_meet
          exact ⟨by rw [unhide HL2], rfl⟩
      case rest =>
      obtain ⟨rfl, hwc⟩ := hcut
      rw [hwc]
      clear hwc
      clear d0 d1 d2 d3
      go_upto_region 11 with fail
      go_cut [9] (fun v wx => v = .string ins ∧ Below W.heap.size W wx)
      case first =>
        go_region_held3 (fun w' => w'.cell? ⟨wr.heap.size, 0, none⟩ = some (.string nm) ∧ w'.cell? ⟨wr.heap.size, 1, none⟩ = some (.string lb))
          (first | (go_split_ands; refine ⟨?_, ?_⟩ <;> ((repeat (first | (with_reducible assumption) | (with_reducible refine drew_cellQ ?_) | (with_reducible refine old_cellQ ?_) | (with_reducible refine keep_cellQ hc3 ?_) | (with_reducible refine keep_cellQ hc2 ?_) | (with_reducible refine keep_cellQ hc1 ?_))); done)) | go_keep)
          ((first
            | (have hq := hc2; go_at_call 19; refine (unhide N4 _ _ _ ?_ ?_ ?_).mono ?_; (focus (repeat (first | ((with_reducible refine new_cellQ ?_ ?_); (focus (simp; done)); rfl) | (with_reducible refine old_cellQ ?_) | (with_reducible refine keep_cellQ hc2 ?_) | (with_reducible refine keep_cellQ hc1 ?_) | (with_reducible refine drew_cellQ ?_)))); (focus (repeat (first | ((with_reducible refine new_cellQ ?_ ?_); (focus (simp; done)); rfl) | (with_reducible refine old_cellQ ?_) | (with_reducible refine keep_cellQ hc2 ?_) | (with_reducible refine keep_cellQ hc1 ?_) | (with_reducible refine drew_cellQ ?_)))); (focus (repeat (first | ((with_reducible refine new_cellQ ?_ ?_); (focus (simp; done)); rfl) | (with_reducible refine old_cellQ ?_) | (with_reducible refine keep_cellQ hc2 ?_) | (with_reducible refine keep_cellQ hc1 ?_) | (with_reducible refine drew_cellQ ?_)))); rintro e y3 ⟨rfl, hc3⟩)
            | (have hq := hc1; go_at_call 19; refine (unhide N3 _ _ _ ?_ ?_).mono ?_; (focus (repeat (first | ((with_reducible refine new_cellQ ?_ ?_); (focus (simp; done)); rfl) | (with_reducible refine old_cellQ ?_) | (with_reducible refine keep_cellQ hc2 ?_) | (with_reducible refine keep_cellQ hc1 ?_) | (with_reducible refine drew_cellQ ?_)))); (focus (repeat (first | ((with_reducible refine new_cellQ ?_ ?_); (focus (simp; done)); rfl) | (with_reducible refine old_cellQ ?_) | (with_reducible refine keep_cellQ hc2 ?_) | (with_reducible refine keep_cellQ hc1 ?_) | (with_reducible refine drew_cellQ ?_)))); rintro e y2 ⟨rfl, hc2⟩)
            | (go_at_call 19; refine (unhide N2 _ _ _ ?_ ?_).mono ?_; (focus (repeat (first | ((with_reducible refine new_cellQ ?_ ?_); (focus (simp; done)); rfl) | (with_reducible refine old_cellQ ?_) | (with_reducible refine keep_cellQ hc2 ?_) | (with_reducible refine keep_cellQ hc1 ?_) | (with_reducible refine drew_cellQ ?_)))); (focus (repeat (first | ((with_reducible refine new_cellQ ?_ ?_); (focus (simp; done)); rfl) | (with_reducible refine old_cellQ ?_) | (with_reducible refine keep_cellQ hc2 ?_) | (with_reducible refine keep_cellQ hc1 ?_) | (with_reducible refine drew_cellQ ?_)))); rintro e y1 ⟨rfl, hc1⟩)))
        all_goals
          have hfin : Below W.heap.size W y3 := by
            (repeat (first | (with_reducible exact Below.refl _ _) | (with_reducible refine ext_drewS ?_) | (with_reducible refine ext_callQ ?_ hc3) | (with_reducible refine ext_callQ ?_ hc2) | (with_reducible refine ext_callQ ?_ hc1) | (with_reducible refine ext_allocQ ?_ _)))
          clear hc1 hc2 hc3
          go_wp2_with fail
          go_meet
          exact ⟨by rw [unhide HIS], hfin⟩
      case rest =>
      obtain ⟨rfl, hfin⟩ := hcut
      have hfw := ext_callQ (unhide HBW) hfin
      clear hfin q0 q1 ha1 ha2 ha3 ha4
      go_wp2_with fail
      refine (unhide N5 _ _ _ (new_cellQ rfl rfl) (new_cellQ rfl rfl)).mono ?_
      rintro e w6 ⟨rfl, hb6⟩
      have hf6 := ext_callQ (ext_allocQ hfw _) hb6
      clear hb6 hfw
      go_wp2
      go_roundw
      case rel => exact ⟨k + 1, by omega, by rw [unhide HNX], by go_num, hf6⟩
      case measure => simp [intOf]; omega
    · obtain rfl : k = l.length := by omega
      have HBW := hide hbw
      clear hbw hlt
      rw [List.take_length]
      go_wp2
      go_ret2
      exact ⟨ret_pairQ (unhide HS).symm rfl, unhide HBW⟩
end Go.Proofs.YtfpglpefofcdeaaGreatDoor
