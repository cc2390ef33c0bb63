/- Orders of the reference. -/
import Derived.Test.YtajkbkljonejnaaGreatDoorM14
import Derived.Deep.RegionHeld3
import Derived.Test.YtajkbkljonejnaaGreatDoorM11
import Derived.Test.YtajkbkljonejnaaGreatDoorM40
import Derived.Test.YtajkbkljonejnaaGreatDoorM16
namespace Go.Proofs.YtajkbkljonejnaaGreatDoor
open Go.RowKit Go.Shelf
set_option linter.unusedVariables false
theorem keep_cell {w w' : World} {a : Addr} {v : Value} (h : Below w.heap.size w w') (hc : w.cell? a = some v) : w'.cell? a = some v := (h.cell (World.block_lt_of_cell? w a hc)).trans hc
theorem bytes_oneS (x : Int) (b cap : Nat) (w : World) (hc : w.cell? ⟨b, 0, none⟩ = some (.int .i64 x)) :
    Calls Tryz.prog 54 #[.slice (some ⟨b, 0, none⟩) 1 cap] w fun e w' => e = .returned (.string (oneS x)) ∧ Below w.heap.size w w' :=
  bytes_one x b 0 cap w (World.block_lt_of_cell? w _ hc) hc
theorem cell_new1 (w : World) (v : Value) (e : TypeId) : (w.alloc (.cells #[v] e)).cell? ⟨w.heap.size, 0, none⟩ = some v := by
  rw [World.cell?_alloc_at _ _ _ _ (by simp)]
  rfl
theorem cell_new2 (w : World) (o : Obj) (v : Value) (e : TypeId) : ((w.alloc o).alloc (.cells #[v] e)).cell? ⟨w.heap.size + 1, 0, none⟩ = some v := by
  rw [World.cell?_alloc_at _ _ _ _ (by simp)]
  rfl
theorem cell_new3 (w : World) (o : Obj) (v : Value) (e : TypeId) : ((w.alloc (.cells #[v] e)).alloc o).cell? ⟨w.heap.size, 0, none⟩ = some v := by
  rw [World.cell?_alloc_past _ _ _ (by simp), World.cell?_alloc_at _ _ _ _ (by simp)]
  rfl
theorem ext_drew (W : World) : Below W.heap.size W W.drew := (Below.refl _ _).drew
theorem ext_alloc {W x : World} (h : Below W.heap.size W x) (o : Obj) : Below W.heap.size W (x.alloc o) := h.alloc h.size o
theorem ext_call {W x y : World} (h : Below W.heap.size W x) (k : Below x.heap.size x y) : Below W.heap.size W y := h.trans (k.mono h.size)
set_option maxHeartbeats 8000000 in
set_option maxRecDepth 100000 in
theorem rorders_any (key : ByteArray) (number : Int) (l : List XOrder) (ao : Option Addr) (cap : Nat) (w : World) (hr : RowOrder w ao l) :
    Calls Tryz.prog 40 #[.string key, .int .i64 number, .slice ao l.length cap] w fun e w' => e = .returned (.tuple #[.string (ordersV key number l), .int .i64 (ordersE key number l)]) ∧ Below w.heap.size w w' := by
  have hV0 : ∀ e, ordersE key number l = e → e ≠ 0 → ordersV key number l = ⟨#[]⟩ := fun e he hne => by rw [ordersV, if_neg (by omega)]
  have HV0 := hide hV0
  clear hV0
  by_cases hk : key.size = 16
  case neg =>
    have he : ordersE key number l = 1 := by rw [ordersE, if_pos hk]
    have HE := hide he; have HV := hide (unhide HV0 1 he (by decide))
    have hk' : ((key.size : Int) != 16) = true := by simp; omega
    clear he hr hk
    go_enter Tryz.func40, Tryz.ntmps40
    go_wp2
    go_ret2
    exact ⟨by rw [unhide HE, unhide HV]; rfl, Below.refl _ _⟩
  by_cases hn : 1 ≤ number ∧ number ≤ 65535
  case neg =>
    have he : ordersE key number l = 3 := by rw [ordersE, if_neg (by omega), inB_falseO.2 hn]; rfl
    have HE := hide he; have HV := hide (unhide HV0 3 he (by decide))
    have hk' : ((key.size : Int) != 16) = false := by simp; omega
    clear he hr hk
    by_cases h1 : number < 1
    · go_enter Tryz.func40, Tryz.ntmps40
      go_wp2
      go_ret2
      exact ⟨by rw [unhide HE, unhide HV]; rfl, Below.refl _ _⟩
    · have h2 : 65535 < number := by omega
      go_enter Tryz.func40, Tryz.ntmps40
      go_wp2
      go_ret2
      exact ⟨by rw [unhide HE, unhide HV]; rfl, Below.refl _ _⟩
  by_cases h8 : l.length ≤ 8
  case neg =>
    have he : ordersE key number l = 2 := by rw [ordersE, if_neg (by omega), inB_trueO.2 hn, Bool.not_true, cond_false, if_pos (by omega)]
    have HE := hide he; have HV := hide (unhide HV0 2 he (by decide))
    have hk' : ((key.size : Int) != 16) = false := by simp; omega
    have h8' : (8 : Int) < (l.length : Int) := by omega
    obtain ⟨hn1, hn2⟩ := hn
    clear he hr hk h8
    go_enter Tryz.func40, Tryz.ntmps40
    go_wp2
    go_ret2
    exact ⟨by rw [unhide HE, unhide HV]; rfl, Below.refl _ _⟩
  have HF := hide (fun j e he hno x hx hxe => ordersE_first (key := key) (number := number) (l := l) hk hn h8 j e he hno x hx hxe)
  have HN := hide (ordersE_none (key := key) (number := number) (l := l) hk hn h8)
  have hk' : (key.size : Int) = 16 := by omega
  have HK := hide hk
  obtain ⟨hn1, hn2⟩ := hn
  obtain ⟨hr, hok, hm⟩ := hr
  have HR := hide hr; have HOK := hide hok
  clear hr hok hm hk
  obtain ⟨W1, hW1⟩ : ∃ W1, W1 = w.alloc (.cells #[.int .i64 4, .int .i64 3, .int .i64 1] 31) := ⟨_, rfl⟩
  have hbw1 : Below w.heap.size w W1 := by rw [hW1]; exact (Below.refl _ _).alloc (Nat.le_refl _) _
  have hce : ∀ (w' : World) (j : Nat) (x : Int), ers[j]? = some x → Below W1.heap.size W1 w' → w'.cell? ⟨w.heap.size, j, none⟩ = some (.int .i64 x) := fun w' j x h hb => by
    rw [hW1] at hb
    exact ers_cell w w' _ j x h hb
  have HCE := hide hce; have HW1 := hide hW1; have HB1 := hide hbw1
  clear hce hW1 hbw1
  go_enter Tryz.func40, Tryz.ntmps40
  go_wp2
  rw [← unhide HW1]
  go_loopw [31] (fun i wr => ∃ j : Nat, j ≤ 3 ∧ i = .int .i64 j ∧ Hid (∀ i e', i < j → ers[i]? = some e' → NoneE l e') ∧ Below W1.heap.size W1 wr) (fun i _ => 3 - (intOf i).toNat)
  case atStart => exact ⟨0, by omega, rfl, hide (fun i e' h => absurd h (Nat.not_lt_zero _)), Below.refl _ _⟩
  case round =>
    obtain ⟨j, hj, rfl, HNO, hbw⟩ := hrel
    by_cases hlt : j < 3
    · obtain ⟨er, her⟩ : ∃ e, ers[j]? = some e := ⟨_, List.getElem?_eq_getElem (by simpa [ers] using hlt)⟩
      have hcj := unhide HCE wr j er her hbw
      have HER := hide her
      have hne0 : er ≠ 0 := by
        intro h0
        subst h0
        match j, her with
        | 0, h => simp [ers] at h
        | 1, h => simp [ers] at h
        | 2, h => simp [ers] at h
        | n + 3, h => simp [ers] at h
      have HN0 := hide hne0
      have hlti : decide ((j : Int) < 3) = true := decide_eq_true (by omega)
      clear her hne0
      go_wp2
      go_loopw [37] (fun i wx => ∃ k : Nat, k ≤ l.length ∧ i = .int .i64 k ∧ Hid (∀ x ∈ l.take k, orderE x ≠ er) ∧ Below W1.heap.size W1 wx) (fun i _ => l.length - (intOf i).toNat)
      case atStart => exact ⟨0, Nat.zero_le _, rfl, hide (by simp), hbw⟩
      case round =>
        clear hcj
        obtain ⟨k, hk, rfl, HKN, hbx⟩ := hrel
        by_cases hkl : k < l.length
        · obtain ⟨y, hy⟩ : ∃ y, l[k]? = some y := ⟨_, List.getElem?_eq_getElem hkl⟩
          rcases (unhide HR) with hnil | ⟨b, off, rfl, hb, hc⟩
          · rw [hnil] at hkl; simp at hkl
          obtain ⟨c0, c1, c2⟩ := hc k y hy
          have hbz := (unhide HB1).trans (hbx.mono (unhide HB1).size)
          have d0 : wr.cell? ⟨b, off + k * 3, none⟩ = _ := (hbz.cell (p := ⟨b, off + k * 3, none⟩) hb).trans c0
          have d1 : wr.cell? ⟨b, off + k * 3 + 1, none⟩ = _ := (hbz.cell (p := ⟨b, off + k * 3 + 1, none⟩) hb).trans c1
          have d2 : wr.cell? ⟨b, off + k * 3 + 2, none⟩ = _ := (hbz.cell (p := ⟨b, off + k * 3 + 2, none⟩) hb).trans c2
          have n1 := fun w => rorder_any y (unhide HOK y (List.mem_of_getElem? hy)).2.2 w
          have hyl := List.mem_of_getElem? hy
          have hbA := fun o : Obj => hbx.alloc hbx.size o
          have HBA := hide hbA
          have hbs := hbx.size
          have HBS := hide hbs
          clear hc c0 c1 c2 hbw hbz hbA hbs
          by_cases hye : orderE y = er
          · have he := unhide HF j er (unhide HER) (unhide HNO) y hyl hye
            have HE := hide he; have HV := hide (unhide HV0 er he (unhide HN0))
            rw [hye] at n1
            have hee : (er == er) = true := by simp
            unfold valOrder at n1
            have N1 := hide n1
            clear n1 he hye hy hyl
            go_wp2_with fail
            refine (unhide N1 _).mono ?_
            rintro e w2 ⟨rfl, b2⟩
            have b3 := (unhide HBA (.cells #[.int .i64 y.what, .int .i64 y.n, .string y.text] 94)).trans (b2.mono (unhide HBA _).size)
            have b4 := (unhide HB1).trans (b3.mono (unhide HB1).size)
            clear b2 b3
            go_wp2
            go_ret2
            exact ⟨by rw [unhide HE, unhide HV]; rfl, b4⟩
          · have HK2 : Hid (∀ x ∈ l.take (k + 1), orderE x ≠ er) := hide (fun x hx => by
              rw [List.take_add_one, hy] at hx
              rcases List.mem_append.1 hx with h | h
              · exact unhide HKN x h
              · obtain rfl : x = y := by simpa using h
                exact hye)
            have hee : (orderE y == er) = false := by simpa using hye
            generalize orderE y = oy at *
            unfold valOrder at n1
            have N1 := hide n1
            clear n1 hye hy hyl
            go_wp2_with fail
            refine (unhide N1 _).mono ?_
            rintro e w2 ⟨rfl, b2⟩
            have b3 := (unhide HBA (.cells #[.int .i64 y.what, .int .i64 y.n, .string y.text] 94)).trans (b2.mono (unhide HBA _).size)
            clear b2
            go_wp2
            go_roundw
            case rel => exact ⟨k + 1, by omega, by go_num, HK2, b3⟩
            case measure => simp [intOf]; omega
        · have HNO2 : Hid (∀ i e', i < j + 1 → ers[i]? = some e' → NoneE l e') := hide (fun i e' hi he' => by
            rcases Nat.lt_or_ge i j with h | h
            · exact unhide HNO i e' h he'
            · obtain rfl : i = j := by omega
              obtain rfl : er = e' := by have := unhide HER; rw [he'] at this; simpa using this.symm
              have := unhide HKN
              rw [List.take_of_length_le (by omega)] at this
              exact this)
          go_wp2
          go_roundw
          case rel => exact ⟨j + 1, by omega, by go_num, HNO2, hbx⟩
          case measure => simp [intOf]; omega
    · have he := unhide HN (fun i e' hi => unhide HNO i e' (by omega))
      have hj3 : ¬ (j : Int) < 3 := by omega
      have HVT := hide (orders_zero_text he)
      obtain ⟨_, _, _, hx⟩ := ordersE_zero he
      have HX := hide hx
      have HE := hide he
      clear he hx HF HN HV0 HNO
      obtain ⟨N, rfl⟩ := Int.eq_ofNat_of_zero_le (show 0 ≤ number by omega)
      go_wp2
      go_loopw [12, 50] (fun s i wx => ∃ k : Nat, k ≤ l.length ∧ s = .string (ordT (l.take k)) ∧ i = .int .i64 k ∧ Below W1.heap.size W1 wx) (fun _ i _ => l.length - (intOf i).toNat)
      case atStart => exact ⟨0, Nat.zero_le _, rfl, rfl, hbw⟩
      case round =>
        clear hbw
        obtain ⟨k, hk, rfl, rfl, hbx⟩ := hrel
        by_cases hkl : k < l.length
        · obtain ⟨y, hy⟩ : ∃ y, l[k]? = some y := ⟨_, List.getElem?_eq_getElem hkl⟩
          rcases (unhide HR) with hnil | ⟨b, off, rfl, hb, hc⟩
          · rw [hnil] at hkl; simp at hkl
          obtain ⟨c0, c1, c2⟩ := hc k y hy
          have hbz := (unhide HB1).trans (hbx.mono (unhide HB1).size)
          have d0 : wr.cell? ⟨b, off + k * 3, none⟩ = _ := (hbz.cell (p := ⟨b, off + k * 3, none⟩) hb).trans c0
          have d1 : wr.cell? ⟨b, off + k * 3 + 1, none⟩ = _ := (hbz.cell (p := ⟨b, off + k * 3 + 1, none⟩) hb).trans c1
          have d2 : wr.cell? ⟨b, off + k * 3 + 2, none⟩ = _ := (hbz.cell (p := ⟨b, off + k * 3 + 2, none⟩) hb).trans c2
          have hst := ordT_take l k y hy
          obtain ⟨hy1, ⟨hy2, hy3⟩, hty⟩ := unhide HX y (List.mem_of_getElem? hy)
          have hlen : (ordT (l.take k)).size ≤ 208 := ordT_size _ (fun x hx => (unhide HX x (List.mem_of_mem_take hx)).2.2) (by have := List.length_take_le k l; omega)
          obtain ⟨wh, n, tx⟩ := y
          simp only at d0 d1 d2 hty hy1 hy2 hy3 hst
          obtain ⟨nn, rfl⟩ := Int.eq_ofNat_of_zero_le hy2
          have e3 : ordS ⟨wh, nn, tx⟩ = oneS wh ++ numS nn 8 ++ oneS tx.size ++ tx := rfl
          rw [e3, numS_big nn (by omega)] at hst
          have n1 := fun (b cap : Nat) (w : World) hc => bytes_oneS wh b cap w hc
          have n2 := fun w => big_any nn 8 w (by decide) (by omega)
          have n3 := fun (b cap : Nat) (w : World) hc => bytes_oneS tx.size b cap w hc
          have z1 := oneS_size wh
          have z2 : (strOfNums (bigL nn 8)).size = 8 := by rw [strOfNums_size, bigL_length]
          have z3 := oneS_size tx.size
          clear hc c0 c1 c2 hy e3 hy1 hy2 hy3
          generalize oneS wh = a1 at *
          generalize strOfNums (bigL nn 8) = a2 at *
          generalize oneS tx.size = a3 at *
          generalize ordT (l.take k) = s0 at *
          have s12 : (a1 ++ a2).size ≤ 9 := by rw [ByteArray.size_append]; omega
          have s123 : (a1 ++ a2 ++ a3).size ≤ 10 := by rw [ByteArray.size_append]; omega
          have s1234 : (a1 ++ a2 ++ a3 ++ tx).size ≤ 26 := by rw [ByteArray.size_append]; omega
          have ha1 := fun w' => run_string_add_sum (P := Tryz.prog) w' a1 a2 (by omega)
          have ha2 := fun w' => run_string_add_sum (P := Tryz.prog) w' (a1 ++ a2) a3 (by omega)
          have ha3 := fun w' => run_string_add_sum (P := Tryz.prog) w' (a1 ++ a2 ++ a3) tx (by omega)
          have ha4 := fun w' => run_string_add_sum (P := Tryz.prog) w' s0 (a1 ++ a2 ++ a3 ++ tx) (by omega)
          obtain ⟨W, hW⟩ : ∃ W, W = wr.alloc (.cells #[.int .i64 wh, .int .i64 nn, .string tx] 94) := ⟨_, rfl⟩
          have hbW : Below W1.heap.size W1 W := by rw [hW]; exact hbx.alloc hbx.size _
          have q0 : W.cell? ⟨wr.heap.size, 0, none⟩ = some (.int .i64 wh) := by rw [hW, World.cell?_alloc_at _ _ _ _ (by simp)]; rfl
          have q1 : W.cell? ⟨wr.heap.size, 1, none⟩ = some (.int .i64 nn) := by rw [hW, World.cell?_alloc_at _ _ _ _ (by simp)]; rfl
          have q2 : W.cell? ⟨wr.heap.size, 2, none⟩ = some (.string tx) := by rw [hW, World.cell?_alloc_at _ _ _ _ (by simp)]; rfl
          have N1 := hide n1; have N2 := hide n2; have N3 := hide n3
          have HW := hide hW; have HST := hide hst; have HBW := hide hbW
          clear n1 n2 n3 hW hst hbx hbz hlen z1 z2 z3 hbW s12 s123 s1234 hty
          go_wp2_with fail
          rw [← unhide HW]
          clear d0 d1 d2
          go_region_held3 (fun w' => w'.cell? ⟨wr.heap.size, 0, none⟩ = some (.int .i64 wh) ∧ w'.cell? ⟨wr.heap.size, 1, none⟩ = some (.int .i64 nn) ∧ w'.cell? ⟨wr.heap.size, 2, none⟩ = some (.string tx))
            (first
              | go_keep
              | (have hq := hby2; go_split_ands; exact ⟨keep_cell hby2 (by assumption), keep_cell hby2 (by assumption), keep_cell hby2 (by assumption)⟩)
              | (have hq := hbig; go_split_ands; exact ⟨keep_cell hbig (by assumption), keep_cell hbig (by assumption), keep_cell hbig (by assumption)⟩)
              | (have hq := hby1; go_split_ands; exact ⟨keep_cell hby1 (by assumption), keep_cell hby1 (by assumption), keep_cell hby1 (by assumption)⟩))
            ((first
              | (go_at_call 89; refine (unhide N2 _).mono ?_; rintro e y3 ⟨rfl, hbig⟩)
              | (have hq := hbig; go_at_call 54; refine (unhide N3 _ _ _ ?_).mono ?_; (first | exact cell_new1 _ _ _ | exact keep_cell hbig (cell_new1 _ _ _) | exact keep_cell hbig (keep_cell hby1 (cell_new2 _ _ _ _)) | exact keep_cell hbig (keep_cell hby1 (cell_new3 _ _ _ _))); rintro e y4 ⟨rfl, hby2⟩)
              | (go_at_call 54; refine (unhide N1 _ _ _ ?_).mono ?_; (first | exact cell_new1 _ _ _ | exact cell_new2 _ _ _ _ | exact cell_new3 _ _ _ _); rintro e y2 ⟨rfl, hby1⟩)))
          all_goals
            have hfin : Below W.heap.size W y4 := by
              first
                | exact ext_call (ext_alloc (ext_call (ext_call (ext_alloc (ext_drew _) _) hby1) hbig) _) hby2
                | exact ext_call (ext_call (ext_alloc (ext_call (ext_alloc (ext_drew _) _) hby1) _) hbig) hby2
                | exact ext_call (ext_call (ext_call (ext_alloc (ext_alloc (ext_drew _) _) _) hby1) hbig) hby2
            clear hby1 hbig hby2
            go_wp2
            go_roundw
            case rel => exact ⟨k + 1, by omega, by rw [unhide HST], by go_num, ext_call (unhide HBW) hfin⟩
            case measure => simp [intOf]; omega
        · rw [List.take_of_length_le (by omega)]
          have hn65 : N ≤ 65535 := by omega
          have n1 := fun w => big_any N 2 w (by decide) (by omega)
          rw [← twoS_big N hn65] at n1
          have n2 := fun w => rderive_any key ordersWord (twoS N) (unhide HK) (by decide) (by rw [twoS_size]; decide) w
          have e2 : deriveS key ordersWord (twoS N) = okeyS key N := rfl
          rw [e2] at n2
          have hts := ordT_size l (fun x hx => (unhide HX x hx).2.2) h8
          have n3 := fun w => rzeros_any 8 (by decide) w
          rw [← zeros8_eq] at n3
          have n4 := fun w => rhide_any (okeyS key N) zeros8 (ordT l) (okeyS_size _ _) rfl (by omega) w
          have h2s := twoS_size N
          have hs5 : (twoS N ++ ordT l).size ≤ 210 := by rw [ByteArray.size_append]; omega
          have n5 := fun w => rseal_any (okeyS key N) (twoS N ++ ordT l) (okeyS_size _ _) (by omega) w
          have hss : (sealS (okeyS key N) (twoS N ++ ordT l)).size ≤ 16 := by
            rw [sealS]
            have : (turnS (okeyS key N) (sealF (twoS N ++ ordT l))).size = 16 := turnS_size _ _
            rw [ByteArray.size_extract]
            omega
          have hhs : (hideS (okeyS key N) zeros8 (ordT l)).size ≤ 208 := by rw [hideS_size]; exact hts
          have ha1 := fun w' => run_string_add_sum (P := Tryz.prog) w' (twoS N) (ordT l) (by omega)
          have ha2 := fun w' => run_string_add_sum (P := Tryz.prog) w' (twoS N) (hideS (okeyS key N) zeros8 (ordT l)) (by omega)
          have ha3 := fun w' => run_string_add_sum (P := Tryz.prog) w' (twoS N ++ hideS (okeyS key N) zeros8 (ordT l)) (sealS (okeyS key N) (twoS N ++ ordT l)) (by rw [ByteArray.size_append]; omega)
          unfold ordersWord at n2
          generalize sealS (okeyS key N) (twoS N ++ ordT l) = sl at *
          generalize twoS N ++ ordT l = tl at *
          generalize hideS (okeyS key N) zeros8 (ordT l) = hd at *
          generalize okeyS key N = ok at *
          generalize twoS N = tw at *
          generalize ordT l = ol at *
          generalize zeros8 = z8 at *
          have N1 := hide n1; have N2 := hide n2; have N3 := hide n3; have N4 := hide n4; have N5 := hide n5
          have hb0 := ext_call (unhide HB1) (hbx.mono (Nat.le_refl _))
          clear n1 n2 n3 n4 n5 hts hs5 hss hhs h2s hbx e2
          go_wp2_with fail
          refine (unhide N1 _).mono ?_
          rintro e w1 ⟨rfl, b1⟩
          have hb1 := ext_call hb0 b1
          clear hb0 b1 N1
          go_wp2_with fail
          refine (unhide N2 _).mono ?_
          rintro e w2 ⟨rfl, b1⟩
          have hb2 := ext_call hb1 b1
          clear hb1 b1 N2
          go_wp2_with fail
          refine (unhide N3 _).mono ?_
          rintro e w3 ⟨rfl, b1⟩
          subst b1
          have hb3 := hb2
          clear hb2 N3
          go_wp2_with fail
          refine (unhide N4 _).mono ?_
          rintro e w4 ⟨rfl, b1⟩
          have hb4 := ext_call hb3 b1
          clear hb3 b1 N4
          go_wp2_with fail
          refine (unhide N5 _).mono ?_
          rintro e w5 ⟨rfl, b1⟩
          have hb5 := ext_call hb4 b1
          clear hb4 b1 N5
          go_wp2
          go_ret2
          exact ⟨by rw [unhide HVT, unhide HE]; rfl, hb5⟩
end Go.Proofs.YtajkbkljonejnaaGreatDoor
namespace Go.Proofs.YtajkbkljonejnaaGreatDoor
open Go.RowKit
set_option linter.unusedVariables false
theorem sealS_size (k t : ByteArray) : (sealS k t).size = 8 := by
  rw [sealS, ByteArray.size_extract, turnS_size]; rfl
end Go.Proofs.YtajkbkljonejnaaGreatDoor
namespace Go.Proofs.YtajkbkljonejnaaGreatDoor
set_option linter.unusedVariables false
set_option linter.unusedSimpArgs false
set_option maxRecDepth 100000
theorem byteAt_left {a b : ByteArray} {i : Nat} (h : i < a.size) : byteAt (a ++ b) i = byteAt a i := by
  unfold byteAt
  rw [ByteArray.data_append, Array.toList_append, List.getD_eq_getElem?_getD, List.getD_eq_getElem?_getD, List.getElem?_append_left (by simpa using h)]
theorem byteAt_right {a b : ByteArray} {i : Nat} (h : a.size ≤ i) : byteAt (a ++ b) i = byteAt b (i - a.size) := by
  unfold byteAt
  rw [ByteArray.data_append, Array.toList_append, List.getD_eq_getElem?_getD, List.getD_eq_getElem?_getD, List.getElem?_append_right (by simpa using h)]
  simp
theorem oneS_byte {n : Int} (h : 0 ≤ n ∧ n ≤ 255) : (byteAt (oneS n) 0 : Int) = n := by
  obtain ⟨m, rfl⟩ := Int.eq_ofNat_of_zero_le h.1
  have e0 : lowByte (m : Int) = (m : Int) := by unfold lowByte; omega
  unfold oneS byteAt
  rw [e0]
  show (((UInt8.ofNat (m : Int).toNat).toNat : Nat) : Int) = _
  rw [Int.toNat_natCast, UInt8.toNat_ofNat']
  omega
theorem two_bytesL {t : ByteArray} (h : t.size = 2) : ∃ a b, t = ⟨#[a, b]⟩ := by
  have hl : t.data.toList.length = 2 := by simpa using h
  match hd : t.data.toList with
  | [a, b] => exact ⟨a, b, by apply ByteArray.ext; apply Array.toList_inj.1; rw [hd]⟩
  | [] => rw [hd] at hl; simp at hl
  | [_] => rw [hd] at hl; simp at hl
  | _ :: _ :: _ :: _ => rw [hd] at hl; simp at hl
theorem twoS_back {t : ByteArray} (h : t.size = 2) : twoS (readV t) = t := by
  obtain ⟨a, b, rfl⟩ := two_bytesL h
  have ha := UInt8.toNat_lt a
  have hb := UInt8.toNat_lt b
  have hv : readV (⟨#[a, b]⟩ : ByteArray) = ((a.toNat * 256 + b.toNat : Nat) : Int) := by
    unfold readV
    have e : valN (⟨#[a, b]⟩ : ByteArray).data.toList = a.toNat * 256 + b.toNat := by simp [valN]
    rw [e, if_neg (by rw [h]; omega), if_neg (by omega)]
  rw [hv]
  have e1 : lowByte (((a.toNat * 256 + b.toNat : Nat) : Int) / 256) = (a.toNat : Int) := by unfold lowByte; omega
  have e0 : lowByte ((a.toNat * 256 + b.toNat : Nat) : Int) = (b.toNat : Int) := by unfold lowByte; omega
  unfold twoS
  rw [e1, e0]
  apply ByteArray.ext
  apply Array.toList_inj.1
  show [UInt8.ofNat ((a.toNat : Int)).toNat, UInt8.ofNat ((b.toNat : Int)).toNat] = [a, b]
  rw [Int.toNat_natCast, Int.toNat_natCast, UInt8.ofNat_toNat, UInt8.ofNat_toNat]
theorem ordT_cons (x : XOrder) (r : List XOrder) : ordT (x :: r) = ordS x ++ ordT r := by
  apply ByteArray.ext
  apply Array.toList_inj.1
  rw [ByteArray.data_append, Array.toList_append]
  simp only [ordT, ordL]
theorem readO_ordT : ∀ (l : List XOrder), (∀ x ∈ l, (1 ≤ x.what ∧ x.what ≤ 8) ∧ (0 ≤ x.n ∧ x.n ≤ 999999999999) ∧ x.text.size ≤ 16) → readO ((ordT l).size + 1) (ordT l) = some l
  | [], _ => readO_nil rfl
  | x :: r, h => by
    obtain ⟨hw, hn, ht⟩ := h x (List.mem_cons_self ..)
    have ih := readO_ordT r (fun y hy => h y (List.mem_cons_of_mem _ hy))
    obtain ⟨m, hm⟩ := Int.eq_ofNat_of_zero_le hn.1
    have hk : numOk (m : Int) ((8 : Nat) : Int) := (numOk_nat m 8 (by decide) (by decide)).2 (by omega)
    have hrn : readV (numS (m : Int) 8) = (m : Int) ∧ readE (numS (m : Int) 8) = 0 := read_num (m : Int) ((8 : Nat) : Int) (by omega) hk
    have h8 : (numS x.n 8).size = 8 := (numS8K hn).1
    have h1 := oneS_size x.what
    have h1b := oneS_size (x.text.size : Int)
    have hb0 := oneS_byte (n := x.what) (by omega)
    have hb9 := oneS_byte (n := (x.text.size : Int)) (by omega)
    rw [hm] at h8 hn
    have hS : ordT (x :: r) = oneS x.what ++ (numS x.n 8 ++ (oneS x.text.size ++ (x.text ++ ordT r))) := by
      rw [ordT_cons]; unfold ordS; simp only [ByteArray.append_assoc]
    rw [hm] at hS
    generalize hT : ordT (x :: r) = T at hS ⊢
    subst hS
    obtain ⟨R, hR⟩ : ∃ R, R = ordT r := ⟨_, rfl⟩
    rw [← hR] at ih ⊢
    obtain ⟨T, hTT⟩ : ∃ T, T = oneS x.what ++ (numS (m : Int) 8 ++ (oneS x.text.size ++ (x.text ++ R))) := ⟨_, rfl⟩
    rw [← hTT]
    have hsz : T.size = 10 + x.text.size + R.size := by rw [hTT]; simp only [ByteArray.size_append]; omega
    have b0 : (byteAt T 0 : Int) = x.what := by rw [hTT, byteAt_left (by omega)]; exact hb0
    have b9 : byteAt T 9 = x.text.size := by
      rw [hTT, byteAt_right (by omega), byteAt_right (by omega), byteAt_left (by omega), show 9 - (oneS x.what).size - (numS (m : Int) 8).size = 0 by omega]
      omega
    have e1 : T.extract 1 9 = numS (m : Int) 8 := by
      rw [hTT]; exact part2K (i := 1) (j := 9) (k := 0) h1 h8 (by decide)
    have e2 : T.extract 10 (10 + byteAt T 9) = x.text := by
      rw [b9, hTT, extract_midK _ _ _ _ (by omega), extract_midK _ _ _ _ (by omega), extract_midK _ _ _ _ (by omega), extract_leftK _ _ _ _ (by omega)]
      have z : 10 - (oneS x.what).size - (numS (m : Int) 8).size - (oneS x.text.size).size = 0 := by omega
      rw [z]
      exact extract_allK _ _ (by omega)
    have e3 : T.extract (10 + byteAt T 9) T.size = R := by
      rw [b9, hsz, hTT, extract_midK _ _ _ _ (by omega), extract_midK _ _ _ _ (by omega), extract_midK _ _ _ _ (by omega), extract_midK _ _ _ _ (by omega)]
      have z : 10 + x.text.size - (oneS x.what).size - (numS (m : Int) 8).size - (oneS x.text.size).size - x.text.size = 0 := by omega
      rw [z]
      exact extract_allK _ _ (by omega)
    rw [readO_step (by omega) (by rw [b9]; omega) (by rw [e1]; exact hrn.2), e3, ih]
    unfold ordAt
    rw [b0, e1, e2, hrn.1, ← hm]
    rfl
structure OwnO (key : ByteArray) (n : Int) (l : List XOrder) (s : ByteArray) : Prop where
  sz : ¬ (s.size < 10 ∨ 4096 < s.size)
  num : numO s = n
  opens : ∀ k : Ks, k.key = key → openO k s = ordT l
  right : ∀ k : Ks, k.key = key → rightO k s = true
  reads : readO ((ordT l).size + 1) (ordT l) = some l
theorem own_orders {key : ByteArray} {n : Int} {l : List XOrder} (h : ordersE key n l = 0) : OwnO key n l (ordersV key n l) := by
  obtain ⟨hk, hn, hl, hx⟩ := ordersE_zero h
  have hT := ordT_size l (fun x hh => (hx x hh).2.2) hl
  rw [orders_zero_text h]
  have h2 := twoS_size n
  have h3 : (hideS (okeyS key n) zeros8 (ordT l)).size = (ordT l).size := hideS_size _ _ _
  have h4 : (sealS (okeyS key n) (twoS n ++ ordT l)).size = 8 := sealS_size _ _
  obtain ⟨H, hH⟩ : ∃ H, H = hideS (okeyS key n) zeros8 (ordT l) := ⟨_, rfl⟩
  obtain ⟨S, hS⟩ : ∃ S, S = sealS (okeyS key n) (twoS n ++ ordT l) := ⟨_, rfl⟩
  rw [← hH] at h3 ⊢
  rw [← hS] at h4 ⊢
  have hsz : (twoS n ++ H ++ S).size = 2 + (ordT l).size + 8 := by simp only [ByteArray.size_append]; omega
  have e0 : (twoS n ++ H ++ S).extract 0 2 = twoS n := by
    rw [ByteArray.append_assoc, extract_leftK _ _ _ _ (by omega)]; exact extract_allK _ _ h2
  have en : numO (twoS n ++ H ++ S) = n := by
    unfold numO
    rw [e0, twoS_numK ⟨by omega, hn.2⟩]
    exact (numS2K ⟨by omega, hn.2⟩).2
  have e1 : (twoS n ++ H ++ S).extract 2 ((twoS n ++ H ++ S).size - 8) = H := by
    rw [hsz, ByteArray.append_assoc, extract_midK _ _ _ _ (by omega), extract_leftK _ _ _ _ (by omega)]
    have z : 2 - (twoS n).size = 0 := by omega
    rw [z]
    exact extract_allK _ _ (by omega)
  have e2 : (twoS n ++ H ++ S).extract ((twoS n ++ H ++ S).size - 8) (twoS n ++ H ++ S).size = S := by
    rw [hsz, extract_midK _ _ _ _ (by rw [ByteArray.size_append]; omega)]
    have z : 2 + (ordT l).size + 8 - 8 - (twoS n ++ H).size = 0 := by rw [ByteArray.size_append]; omega
    rw [z]
    exact extract_allK _ _ (by rw [ByteArray.size_append]; omega)
  have eo : ∀ k : Ks, k.key = key → openO k (twoS n ++ H ++ S) = ordT l := by
    intro k hkk
    unfold openO
    rw [en, e1, hkk, hH, hideS_twice]
  refine ⟨by omega, en, eo, ?_, readO_ordT l hx⟩
  intro k hkk
  unfold rightO
  rw [eo k hkk, en, e2, hkk, hS]
  exact decide_eq_true rfl
end Go.Proofs.YtajkbkljonejnaaGreatDoor
