/- Hide of the reference, and what is refused. -/
import Derived.Test.YtlnoilfnpgogbagMillH2
namespace Go.Proofs.Ytlnoilfnpgogbag
open Go.RowKit Go.Shelf
set_option linter.unusedVariables false

theorem hide_form (k n s : ByteArray) (h : k.size ≠ 16 ∨ n.size ≠ 8) (w : World) :
    Calls Try.prog 43 #[.string k, .string n, .string s] w fun e w' => e = .returned (.tuple #[.string ⟨#[]⟩, .int .i64 1]) ∧ w' = w := by
  by_cases hk : k.size = 16
  · have t0 := len_eq k hk
    have t1 : ((n.size : Int) != 8) = true := by rw [bne_iff_ne]; omega
    clear h hk
    go_enter Try.func43, Try.ntmps43
    go_wp2
    go_ret2
    exact ⟨rfl, rfl⟩
  · have t0 := len_ne k hk
    clear h hk
    go_enter Try.func43, Try.ntmps43
    go_wp2
    go_ret2
    exact ⟨rfl, rfl⟩
set_option maxRecDepth 100000 in
theorem hide_long (k n s : ByteArray) (hk : k.size = 16) (hn : n.size = 8) (hs : (65536 : Int) < (s.size : Int)) (w : World) :
    Calls Try.prog 43 #[.string k, .string n, .string s] w fun e w' => e = .returned (.tuple #[.string ⟨#[]⟩, .int .i64 2]) ∧ w' = w := by
  have t0 := len_eq k hk
  have t1 : ((n.size : Int) != 8) = false := by rw [bne_eq_false_iff_eq]; omega
  clear hk hn
  go_enter Try.func43, Try.ntmps43
  go_wp2
  go_ret2
  exact ⟨rfl, rfl⟩

theorem hide_piece (k n s : ByteArray) (hn : n.size = 8) (j : Nat) (h : 16 * j < s.size) (hj : j < 4294967296) (e : Nat) (he : e = min (16 * j + 16) s.size) :
    strOfNums (hidL (maskAt (blkOf k.data.toList) (wordAt n.data.toList 0) (wordAt n.data.toList 1)) (s.data.toList.take (16 * j))) ++ xorS (s.extract (16 * j) e) (turnS k (n ++ strOfNums (bigL j 8))) = strOfNums (hidL (maskAt (blkOf k.data.toList) (wordAt n.data.toList 0) (wordAt n.data.toList 1)) (s.data.toList.take (16 * (j + 1)))) := by
  have hl : s.data.toList.length = s.size := by simp
  have hd : (n ++ strOfNums (bigL j 8)).data.toList = n.data.toList ++ bytesOf (bigL j 8) := by
    rw [ByteArray.data_append, Array.toList_append, strOfNums_data]; rfl
  rw [hidL_piece _ _ _ _ _ (by rw [hl]; exact h), ← strOfNums_append]
  congr 1
  unfold xorS turnS
  rw [hd, blkOf_nonce _ _ (by simpa using hn) hj, extract_list]
  have e1 : (s.data.toList.drop (16 * j)).take (e - 16 * j) = (s.data.toList.drop (16 * j)).take 16 := by
    by_cases hc : 16 * j + 16 ≤ s.size
    · rw [he, Nat.min_eq_left hc, Nat.add_sub_cancel_left]
    · rw [he, Nat.min_eq_right (by omega), List.take_of_length_le (by rw [List.length_drop, hl]; omega), List.take_of_length_le (by rw [List.length_drop, hl]; omega)]
  rw [e1, xorL_blk _ _ (by rw [List.length_take]; omega)]
  rfl

set_option maxHeartbeats 4000000 in
set_option maxRecDepth 100000 in
theorem rhide_any (k n s : ByteArray) (hk : k.size = 16) (hn : n.size = 8) (hs : (s.size : Int) ≤ 65536) (w : World) :
    Calls Try.prog 47 #[.string k, .string n, .string s] w fun e w' => e = .returned (.string (hideS k n s)) ∧ Below w.heap.size w w' := by
  have hfin : hideS k n s = strOfNums (hidL (maskAt (blkOf k.data.toList) (wordAt n.data.toList 0) (wordAt n.data.toList 1)) s.data.toList) := rfl
  have HF := hide hfin
  have hl : s.data.toList.length = s.size := by simp
  have HL := hide hl
  clear hfin hl
  go_enter Try.func47, Try.ntmps47
  go_wp2
  go_loopw [7, 8] (fun t i wr => ∃ j : Nat, 16 * j ≤ s.size + 15 ∧ i = .int .i64 (16 * j : Nat) ∧ t = .string (strOfNums (hidL (maskAt (blkOf k.data.toList) (wordAt n.data.toList 0) (wordAt n.data.toList 1)) (s.data.toList.take (16 * j)))) ∧ Below w.heap.size w wr) (fun _ i _ => s.size + 32 - (intOf i).toNat)
  case atStart => exact ⟨0, Nat.zero_le _, rfl, rfl, Below.refl _ _⟩
  case round =>
    obtain ⟨j, hj, rfl, rfl, hbel⟩ := hrel
    by_cases hlt : 16 * j < s.size
    · obtain ⟨e, he⟩ : ∃ e, e = min (16 * j + 16) s.size := ⟨_, rfl⟩
      have hp := hide_piece k n s hn j hlt (by omega) e he
      obtain ⟨p, hpj⟩ : ∃ p, p = 16 * j := ⟨_, rfl⟩
      rw [← hpj] at hp hlt
      have hmin : min ((p : Int) + 16) (s.size : Int) = (e : Int) := by omega
      have hdiv : (p : Int) / 16 = (j : Int) := by omega
      have hpe : p ≤ e := by omega
      have hes : e ≤ s.size := by omega
      have he16 : e ≤ p + 16 := by omega
      have s8 : (strOfNums (bigL j 8)).size = 8 := by rw [strOfNums_size, bigL_length]
      have hns : (n ++ strOfNums (bigL j 8)).size = 16 := by rw [ByteArray.size_append, hn, s8]
      have N1 := hide (fun w => (big_any j 8 w (by decide) (by omega) : Calls Try.prog 26 #[.int .i64 j, .int .i64 8] w _))
      have N2 := hide (fun w => rturn_any k (n ++ strOfNums (bigL j 8)) hk hns w)
      have hts := turnS_size k (n ++ strOfNums (bigL j 8))
      have hxs : (s.extract p e).size = e - p := by simp; omega
      have N3 := hide (fun w => rxor_any (s.extract p e) (turnS k (n ++ strOfNums (bigL j 8))) (by omega) (by omega) w)
      have hzs := xorS_size (s.extract p e) (turnS k (n ++ strOfNums (bigL j 8))) (by omega)
      have hss : (strOfNums (hidL (maskAt (blkOf k.data.toList) (wordAt n.data.toList 0) (wordAt n.data.toList 1)) (s.data.toList.take p))).size = p := by
        rw [strOfNums_size, hidL_length, List.length_take, unhide HL]; omega
      rw [← hpj]
      generalize xorS (s.extract p e) (turnS k (n ++ strOfNums (bigL j 8))) = x3 at *
      generalize turnS k (n ++ strOfNums (bigL j 8)) = x2 at *
      generalize strOfNums (bigL j 8) = x1 at *
      obtain ⟨S2, hS2⟩ : ∃ S2, S2 = strOfNums (hidL (maskAt (blkOf k.data.toList) (wordAt n.data.toList 0) (wordAt n.data.toList 1)) (s.data.toList.take (16 * (j + 1)))) := ⟨_, rfl⟩
      rw [← hS2] at hp
      generalize strOfNums (hidL (maskAt (blkOf k.data.toList) (wordAt n.data.toList 0) (wordAt n.data.toList 1)) (s.data.toList.take p)) = S at *
      have HP := hide hp
      have HS2 := hide hS2
      have HPJ := hide hpj
      have HW := hide hbel
      have hj4 : (j : Int) ≤ 4096 := by omega
      clear hp hS2 hpj hbel he
      go_wp2_with fail
      refine (unhide N1 _).mono ?_
      rintro e y1 ⟨rfl, d1⟩
      go_wp2_with fail
      refine (unhide N2 _).mono ?_
      rintro e y2 ⟨rfl, d2⟩
      go_wp2_with fail
      refine (unhide N3 _).mono ?_
      rintro e y3 ⟨rfl, d3⟩
      have g1 := (unhide HW).trans (d1.mono (unhide HW).size)
      have g2 := g1.trans (d2.mono g1.size)
      have W3 := hide (g2.trans (d3.mono g2.size))
      have hj16 : 16 * (j + 1) ≤ s.size + 15 := by have := unhide HPJ; omega
      clear N1 N2 N3 HW d1 d2 d3 g1 g2
      go_wp2
      go_roundw
      case rel => exact ⟨j + 1, hj16, by have := unhide HPJ; go_num, by rw [unhide HP, unhide HS2], unhide W3⟩
      case measure => have := unhide HPJ; simp [intOf]; omega
    · have ht : s.data.toList.take (16 * j) = s.data.toList := List.take_of_length_le (by rw [unhide HL]; omega)
      rw [ht, ← unhide HF]
      obtain ⟨p, hpj⟩ : ∃ p, p = 16 * j := ⟨_, rfl⟩
      rw [← hpj]
      have hp : ¬ (p : Int) < (s.size : Int) := by omega
      clear ht hpj hlt hj HF HL
      go_wp2
      go_ret
      exact ⟨rfl, hbel⟩
end Go.Proofs.Ytlnoilfnpgogbag
