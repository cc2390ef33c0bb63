/- Orders of the program. -/
import Derived.Test.YtlnoilfnpgogbagOrdX
namespace Go.Proofs.Ytlnoilfnpgogbag
open Go.RowKit Go.Shelf
set_option linter.unusedVariables false

def ordersWord : ByteArray := ⟨#[111, 114, 100, 101, 114, 115]⟩
def okeyS (key : ByteArray) (number : Int) : ByteArray := deriveS key ordersWord (twoS number)
theorem okeyS_size (key : ByteArray) (number : Int) : (okeyS key number).size = 16 := foldS_size _
def zeros8 : ByteArray := ⟨#[0, 0, 0, 0, 0, 0, 0, 0]⟩
theorem zeros8_eq : zeros8 = zeroS 8 := rfl
def ordersS (key : ByteArray) (number : Int) (l : List XOrder) : ByteArray :=
  twoS number ++ hideS (okeyS key number) zeros8 (ordT l) ++ sealS (okeyS key number) (twoS number ++ ordT l)
def ordersV (key : ByteArray) (number : Int) (l : List XOrder) : ByteArray := if ordersE key number l = 0 then ordersS key number l else ⟨#[]⟩
theorem digitsB_size {s : ByteArray} {lo hi : Int} (h : digitsB s lo hi = true) : lo ≤ (s.size : Int) ∧ (s.size : Int) ≤ hi := by
  rw [digitsB, Bool.and_eq_true] at h
  exact inB_true.1 h.2
theorem textB_size {wh : Int} {t : ByteArray} (h : textB wh t = true) : t.size ≤ 16 := by
  unfold textB at h
  split at h
  · have := of_decide_eq_true h; omega
  · split at h
    · have := digitsB_size h; omega
    · have := of_decide_eq_true h; omega
theorem any_false {α : Type} {l : List α} {p : α → Bool} (h : l.any p = false) : ∀ x ∈ l, p x = false := by
  intro x hx
  cases hp : p x with
  | false => rfl
  | true => rw [List.any_eq_true.2 ⟨x, hx, hp⟩] at h; cases h
theorem ordersE_zero {key : ByteArray} {number : Int} {l : List XOrder} (h : ordersE key number l = 0) :
    key.size = 16 ∧ (1 ≤ number ∧ number ≤ 65535) ∧ l.length ≤ 8 ∧ ∀ x ∈ l, (1 ≤ x.what ∧ x.what ≤ 8) ∧ (0 ≤ x.n ∧ x.n ≤ 999999999999) ∧ x.text.size ≤ 16 := by
  unfold ordersE at h
  by_cases h1 : key.size = 16
  case neg => rw [if_pos h1] at h; cases h
  rw [if_neg (by omega)] at h
  cases h2 : inB number 1 65535 with
  | false => rw [h2] at h; cases h
  | true =>
  rw [h2] at h
  simp only [Bool.not_true, cond_false] at h
  by_cases h3 : 8 < l.length
  · rw [if_pos h3] at h; cases h
  rw [if_neg h3] at h
  cases h4 : l.any okindB with
  | true => rw [h4] at h; cases h
  | false =>
  cases h5 : l.any orangeB with
  | true => rw [h4, h5] at h; cases h
  | false =>
  cases h6 : l.any oformB with
  | true => rw [h4, h5, h6] at h; cases h
  | false =>
  refine ⟨h1, inB_true.1 h2, by omega, fun x hx => ⟨?_, ?_, ?_⟩⟩
  · have := any_false h4 x hx
    unfold okindB at this
    exact inB_true.1 (by simpa using this)
  · have := any_false h5 x hx
    unfold orangeB at this
    obtain ⟨p1, p2⟩ := inB_true.1 (by simpa using this)
    have hm : mostN x.what ≤ 999999999999 := by unfold mostN; split; · omega
                                                split <;> omega
    omega
  · have := any_false h6 x hx
    unfold oformB at this
    exact textB_size (by simpa using this)
set_option maxHeartbeats 2000000 in
theorem orderKey_any (key : ByteArray) (number : Int) (hk : key.size = 16) (w : World) :
    Calls Try.prog 41 #[.string key, .int .i64 number] w fun e w' => e = .returned (.string (okeyS key number)) ∧ Below w.heap.size w w' := by
  have N1 := hide (fun w => two_any number w)
  have n2 := fun w => derive_yes key ordersWord (twoS number) hk (by decide) (by rw [twoS_size]; decide) w
  have e : deriveS key ordersWord (twoS number) = okeyS key number := rfl
  rw [e] at n2
  have N2 := hide n2
  clear e n2 hk
  generalize okeyS key number = x at *
  generalize twoS number = y at *
  unfold ordersWord at N2
  go_enter Try.func41, Try.ntmps41
  go_wp2_with fail
  refine (unhide N1 _).mono ?_
  rintro e w1 ⟨rfl, b1⟩
  go_wp2_with fail
  refine (unhide N2 _).mono ?_
  rintro e w2 ⟨rfl, b2⟩
  go_wp2
  go_ret
  exact ⟨rfl, b1.trans (b2.mono b1.size)⟩

set_option maxHeartbeats 4000000 in
theorem orders_any (key : ByteArray) (number : Int) (l : List XOrder) (ao : Option Addr) (cap : Nat) (w : World) (hr : RowOrder w ao l) :
    Calls Try.prog 16 #[.string key, .int .i64 number, .slice ao l.length cap] w fun e w' => e = .returned (.tuple #[.string (ordersV key number l), .int .i64 (ordersE key number l)]) ∧ Below w.heap.size w w' := by
  have N1 := hide (checkOrders_any key number l ao cap w hr)
  by_cases h0 : ordersE key number l = 0
  case neg =>
    have HV : Hid (ordersV key number l = ⟨#[]⟩) := hide (by rw [ordersV, if_neg h0])
    have hne : ((ordersE key number l) != 0) = true := by simpa using h0
    generalize ordersV key number l = ov at *
    generalize ordersE key number l = oe at *
    clear hr h0
    go_enter Try.func16, Try.ntmps16
    go_wp2_with fail
    refine (unhide N1).mono ?_
    rintro e w1 ⟨rfl, b1⟩
    go_wp2
    go_ret2
    exact ⟨by rw [unhide HV]; rfl, b1⟩
  have HV : Hid (ordersV key number l = ordersS key number l) := hide (by rw [ordersV, if_pos h0])
  obtain ⟨hk, hn, h8, hx⟩ := ordersE_zero h0
  have hts := ordT_size l (fun x hx' => (hx x hx').2.2) h8
  have N2 := hide (fun w => orderKey_any key number hk w)
  have N3 := hide (fun w' (hb : Below w.heap.size w w') => writeOrders_any l ao cap w' (hr.below hb) h8 (fun x hx' => (hx x hx').2.2))
  have n4 := fun w => hide_yes (okeyS key number) zeros8 (ordT l) (okeyS_size _ _) rfl (by omega) w
  have h2s := twoS_size number
  have hs5 : (twoS number ++ ordT l).size ≤ 210 := by rw [ByteArray.size_append]; omega
  have n5 := fun w => seal_yes (okeyS key number) (twoS number ++ ordT l) (okeyS_size _ _) (by omega) w
  have N6 := hide (fun w => two_any number w)
  have hss : (sealS (okeyS key number) (twoS number ++ ordT l)).size ≤ 16 := by
    rw [sealS]
    have : (turnS (okeyS key number) (sealF (twoS number ++ ordT l))).size = 16 := turnS_size _ _
    rw [ByteArray.size_extract]
    omega
  have hhs : (hideS (okeyS key number) zeros8 (ordT l)).size ≤ 208 := by rw [hideS_size]; exact hts
  have HO : Hid (ordersS key number l = twoS number ++ hideS (okeyS key number) zeros8 (ordT l) ++ sealS (okeyS key number) (twoS number ++ ordT l)) := hide rfl
  rw [h0] at N1 ⊢
  have ha1 := fun w' => run_string_add_sum (P := Try.prog) w' (twoS number) (ordT l) (by omega)
  have ha2 := fun w' => run_string_add_sum (P := Try.prog) w' (twoS number) (hideS (okeyS key number) zeros8 (ordT l)) (by omega)
  have ha3 := fun w' => run_string_add_sum (P := Try.prog) w' (twoS number ++ hideS (okeyS key number) zeros8 (ordT l)) (sealS (okeyS key number) (twoS number ++ ordT l)) (by rw [ByteArray.size_append]; omega)
  generalize ordersV key number l = ov at *
  generalize ordersS key number l = os at *
  generalize sealS (okeyS key number) (twoS number ++ ordT l) = sl at *
  generalize twoS number ++ ordT l = tl at *
  generalize hideS (okeyS key number) zeros8 (ordT l) = hd at *
  generalize okeyS key number = ok at *
  generalize twoS number = tw at *
  generalize ordT l = ol at *
  unfold zeros8 at n4
  have N4 := hide n4; have N5 := hide n5
  clear n4 n5 hr h0 hk hn hx hts hs5 hss hhs h2s
  go_enter Try.func16, Try.ntmps16
  go_wp2_with fail
  refine (unhide N1).mono ?_
  rintro e w1 ⟨rfl, b1⟩
  go_wp2_with fail
  refine (unhide N2 _).mono ?_
  rintro e w2 ⟨rfl, b2⟩
  have b3 := b1.trans (b2.mono b1.size)
  clear b1 b2 N1 N2
  go_wp2_with fail
  refine (unhide N3 _ b3).mono ?_
  rintro e w3 ⟨rfl, b4⟩
  have b5 := b3.trans (b4.mono b3.size)
  clear b3 b4 N3
  go_wp2_with fail
  refine (unhide N4 _).mono ?_
  rintro e w4 ⟨rfl, b6⟩
  have b7 := b5.trans (b6.mono b5.size)
  clear b5 b6 N4
  go_wp2_with fail
  refine (unhide N6 _).mono ?_
  rintro e w5 ⟨rfl, b8⟩
  have b9 := b7.trans (b8.mono b7.size)
  clear b7 b8
  go_wp2_with fail
  refine (unhide N5 _).mono ?_
  rintro e w6 ⟨rfl, b10⟩
  have b11 := b9.trans (b10.mono b9.size)
  clear b9 b10 N5
  go_wp2_with fail
  refine (unhide N6 _).mono ?_
  rintro e w7 ⟨rfl, b12⟩
  have b13 := b11.trans (b12.mono b11.size)
  clear b11 b12 N6
  go_wp2
  go_ret2
  exact ⟨by rw [unhide HV, unhide HO]; rfl, b13⟩
end Go.Proofs.Ytlnoilfnpgogbag
