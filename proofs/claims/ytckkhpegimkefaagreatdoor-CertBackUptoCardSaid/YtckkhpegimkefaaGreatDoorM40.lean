/- ReadKey of the document's own. -/
import Derived.Test.YtckkhpegimkefaaGreatDoorM39
namespace Go.Proofs.YtckkhpegimkefaaGreatDoor
open Go.RowKit
set_option linter.unusedVariables false
set_option linter.unusedSimpArgs false
set_option maxRecDepth 100000

theorem kRest_cut (s : ByteArray) (n : Nat) (h : n + 3 ≤ s.size) : (kRest s n).extract 0 2 = s.extract (n + 1) (n + 3) ∧ kM s n = s.extract (n + 3) s.size ∧ kO s n = s.extract 1 (n + 1) := by
  refine ⟨?_, ?_, ?_⟩
  · unfold kRest
    rw [ByteArray.extract_extract]
    congr 1 <;> omega
  · unfold kM kRest
    rw [ByteArray.extract_extract, ByteArray.size_extract]
    congr 1 <;> omega
  · unfold kO
    rw [Nat.add_comm]
/-- a key's text is the text that it was read from just if that text says how many digits there are -/
theorem keyS_same (s : ByteArray) (n : Nat) (h1 : 1 ≤ n) (h19 : n ≤ 19) (h : n + 3 ≤ s.size) (he : keyE (kO s n) (kT s n : Int) (kM s n) = 0) : keyS (kO s n) (kT s n : Int) (kM s n) = s ↔ kN s = n := by
  obtain ⟨e1, e2, e3⟩ := kRest_cut s n h
  have ht := kT_lt s n
  have hx : numS (kT s n : Int) 2 = (kRest s n).extract 0 2 := by
    have hk : numOk (kT s n : Int) 2 := ⟨by decide, by decide, by omega, by rw [show ((256 : Int) ^ (2 : Int).toNat) = 65536 from rfl]; omega⟩
    rw [numS_yes hk, Int.toNat_natCast]
    have := text_of_num ((kRest s n).extract 0 2)
    rw [show ((kRest s n).extract 0 2).size = 2 by rw [e1, ByteArray.size_extract]; omega] at this
    exact this
  have hoz : (kO s n).size = n := by rw [e3, ByteArray.size_extract]; omega
  unfold keyS
  rw [if_pos he, hx, hoz, e1, e2, e3]
  have hne : s.data.toList ≠ [] := by
    intro hh
    have hz : s.size = s.data.toList.length := by simp
    rw [hh, List.length_nil] at hz
    omega
  obtain ⟨c, tl, hc⟩ : ∃ c tl, s.data.toList = c :: tl := by
    cases hs : s.data.toList with
    | nil => exact absurd hs hne
    | cons c tl => exact ⟨c, tl, rfl⟩
  have hlen : s.size = tl.length + 1 := by
    have hz : s.size = s.data.toList.length := by simp
    rw [hz, hc, List.length_cons]
  have hL : (strOfNums [(n : Int)] ++ s.extract 1 (n + 1) ++ s.extract (n + 1) (n + 3) ++ s.extract (n + 3) s.size).data.toList = UInt8.ofNat n :: tl := by
    simp only [ByteArray.data_append, Array.toList_append, extract_list]
    rw [hc, hlen]
    have h4 : (strOfNums [(n : Int)]).data.toList = [UInt8.ofNat n] := by simp [strOfNums]
    rw [h4]
    have d1 : (List.drop 1 (c :: tl)).take (n + 1 - 1) = tl.take n := by simp
    have d2 : (List.drop (n + 1) (c :: tl)).take (n + 3 - (n + 1)) = (tl.drop n).take 2 := by rw [List.drop_succ_cons, show n + 3 - (n + 1) = 2 by omega]
    have d3 : (List.drop (n + 3) (c :: tl)).take (tl.length + 1 - (n + 3)) = (tl.drop n).drop 2 := by
      rw [show n + 3 = (n + 2) + 1 by omega, List.drop_succ_cons, List.drop_drop, List.take_of_length_le (by simp)]
    rw [d1, d2, d3, List.append_assoc, List.append_assoc, List.take_append_drop, List.take_append_drop]
    rfl
  have hk : kN s = c.toNat := by unfold kN; rw [hc]; rfl
  rw [hk]
  constructor
  · intro hs
    have this : (strOfNums [(n : Int)] ++ s.extract 1 (n + 1) ++ s.extract (n + 1) (n + 3) ++ s.extract (n + 3) s.size).data.toList = s.data.toList := congrArg (fun b : ByteArray => b.data.toList) hs
    rw [hL, hc] at this
    have hcn := (List.cons.inj this).1
    rw [← hcn]
    show n % 256 = n
    omega
  · intro hcn
    apply ByteArray.ext
    apply Array.toList_inj.1
    rw [hL, hc]
    rw [← hcn, UInt8.ofNat_toNat]
theorem rk_parts {s : ByteArray} (h : rkB s = true) : 1 ≤ kN s ∧ kN s ≤ 19 ∧ kN s + 3 ≤ s.size ∧ keyB (kO s (kN s)) (kM s (kN s)) = true := by
  unfold rkB at h
  rw [Bool.and_eq_true, decide_eq_true_eq] at h
  obtain ⟨⟨h1, h2⟩, h3⟩ := h
  have h4 := digitsB_size (keyB_parts h3).1
  have h5 : (kO s (kN s)).size = kN s := by unfold kO; rw [ByteArray.size_extract]; omega
  rw [h5] at h4
  exact ⟨by omega, by omega, by omega, h3⟩
theorem rk_at {s : ByteArray} (n : Nat) (h : n + 3 ≤ s.size) (hn : kN s = n) : rkB s = keyB (kO s n) (kM s n) := by
  unfold rkB
  rw [hn, decide_eq_true ⟨by omega, by omega⟩]
  rfl
end Go.Proofs.YtckkhpegimkefaaGreatDoor
