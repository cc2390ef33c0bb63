/- The document's host: master, holder. -/
import Derived.Test.YtbiipeapcclbkaaDoorHkI
import Derived.Test.YtbiipeapcclbkaaDoorHkC
namespace Go.Proofs.YtbiipeapcclbkaaDoor
open Go.RowKit
set_option linter.unusedVariables false
set_option linter.unusedSimpArgs false
set_option maxRecDepth 100000

def mKey (ms : List KV) (v : Int) : ByteArray := ((ms.find? (fun p => decide (p.1 = v))).map (fun p => p.2)).getD ⟨#[]⟩
/-- the document's host in memory -/
structure RHost (w : World) (r : Nat) (ms : List KV) (ma : Option Addr) (mc : Nat) (lv : Value) (ov : Value) : Prop where
  box : w.heap[r]? = some (.cells #[.slice ma ms.length mc, lv, ov, .slice none 0 0] 39)
  row : KRow w ma ms
  len : (ms.length : Int) ≤ 9223372036854775807
  apart : ∀ b off s, ma = some ⟨b, off, s⟩ → b ≠ r
theorem RHost.below {w w' : World} {r : Nat} {ms : List KV} {ma : Option Addr} {mc : Nat} {lv ov : Value} (h : RHost w r ms ma mc lv ov) (hb : Below w.heap.size w w') : RHost w' r ms ma mc lv ov :=
  ⟨(hb.block _ (blkLtH h.box)).trans h.box, h.row.below hb (Nat.le_refl _), h.len, h.apart⟩
theorem RHost.cells {w : World} {r : Nat} {ms : List KV} {ma : Option Addr} {mc : Nat} {lv ov : Value} (h : RHost w r ms ma mc lv ov) : w.cell? ⟨r, 0, none⟩ = some (.slice ma ms.length mc) ∧ w.cell? ⟨r, 2, none⟩ = some ov := by
  have := h.box
  refine ⟨?_, ?_⟩ <;> simp [World.cell?, this]
theorem find_take {ms : List KV} {q : Nat} {p : KV} {v : Int} (hp : ms[q]? = some p) (h0 : ∀ x ∈ ms.take q, x.1 ≠ v) (hv : p.1 = v) : mKey ms v = p.2 := by
  unfold mKey
  obtain ⟨hq, he⟩ := List.getElem?_eq_some_iff.1 hp
  have hs : ms = ms.take q ++ p :: ms.drop (q + 1) := by rw [← he, List.getElem_cons_drop, List.take_append_drop]
  rw [hs, List.find?_append]
  have : List.find? (fun x : KV => decide (x.1 = v)) (ms.take q) = none := List.find?_eq_none.2 (fun x hx => by simpa using h0 x hx)
  rw [this]
  simp [hv]
theorem find_none {ms : List KV} {v : Int} (h0 : ∀ x ∈ ms, x.1 ≠ v) : mKey ms v = ⟨#[]⟩ := by
  unfold mKey
  rw [List.find?_eq_none.2 (fun x hx => by simpa using h0 x hx)]; rfl
set_option maxHeartbeats 2000000 in
theorem rmaster_any (r : Nat) (ms : List KV) (ma : Option Addr) (mc : Nat) (lv ov : Value) (v : Int) (w : World) (h : RHost w r ms ma mc lv ov) :
    Calls Tryd.prog 18 #[.pointer (some ⟨r, 0, none⟩), .int .i64 v] w fun e w' => e = .returned (.string (mKey ms v)) ∧ Below w.heap.size w w' := by
  obtain ⟨c0, c2⟩ := h.cells
  have hml := h.len
  have HR := hide h.row
  have HF := hide (fun q p hp h0 hv => find_take (ms := ms) (q := q) (p := p) (v := v) hp h0 hv)
  have HN := hide (find_none (ms := ms) (v := v))
  generalize mKey ms v = mk at *
  clear h c2
  go_enter Tryd.func18, Tryd.ntmps18
  go_wp2
  go_loopw [13] (fun iv wx => ∃ q : Nat, q ≤ ms.length ∧ iv = .int .i64 (q : Int) ∧ Hid (∀ x ∈ ms.take q, x.1 ≠ v) ∧ Below w.heap.size w wx) (fun iv _ => ms.length - (intOf iv).toNat)
  case atStart => exact ⟨0, Nat.zero_le _, rfl, hide (fun x hx => by simp at hx), Below.refl _ _⟩
  case round =>
    obtain ⟨q, hq, rfl, H0, hbw⟩ := hrel
    by_cases hlt : q < ms.length
    · obtain ⟨p, hp⟩ : ∃ p, ms[q]? = some p := ⟨_, List.getElem?_eq_getElem hlt⟩
      rcases (unhide HR).below hbw (Nat.le_refl _) with hnil | ⟨b, off, hae, hbl, hc⟩
      · rw [hnil] at hlt; simp at hlt
      obtain ⟨d0, d1⟩ := hc q p hp
      obtain ⟨pv, pk⟩ := p
      dsimp only at d0 d1
      have hlti : (q : Int) < (ms.length : Int) := by omega
      have HB := hide (hbw.alloc hbw.size (.cells #[.int .i64 pv, .string pk] 52))
      have HP := hide hp
      subst hae
      clear hc hp hbw hbl
      by_cases hv : pv = v
      · have HK := hide (unhide HF q (pv, pk) (unhide HP) (unhide H0) hv)
        have hvb : (pv == v) = true := by simpa using hv
        clear hv HF HN
        go_wp2
        go_ret
        exact ⟨by rw [unhide HK]; rfl, unhide HB⟩
      · have hvb : (pv == v) = false := by simpa using hv
        have H1 : Hid (∀ x ∈ ms.take (q + 1), x.1 ≠ v) := hide (by
          rw [take_snocK (unhide HP)]
          intro x hx
          rcases List.mem_append.1 hx with hx | hx
          · exact unhide H0 x hx
          · simp at hx; rw [hx]; exact hv)
        clear hv H0
        go_wp2
        go_roundw
        case rel => exact ⟨q + 1, by omega, by go_num, H1, unhide HB⟩
        case measure => simp [intOf]; omega
    · have hlti : ¬ (q : Int) < (ms.length : Int) := by omega
      have HK := hide (unhide HN (by
        have := unhide H0
        rwa [List.take_of_length_le (by omega)] at this))
      have HB := hide hbw
      clear hbw HF HN
      go_wp2
      go_ret
      exact ⟨by rw [unhide HK]; rfl, unhide HB⟩
set_option maxHeartbeats 1000000 in
theorem rholder_none (r : Nat) (ms : List KV) (ma : Option Addr) (mc : Nat) (lv : Value) (id : ByteArray) (w : World) (h : RHost w r ms ma mc lv (.slice none 0 0)) :
    Calls Tryd.prog 19 #[.pointer (some ⟨r, 0, none⟩), .string id] w fun e w' => e = .returned (.pointer none) ∧ w' = w := by
  obtain ⟨c0, c2⟩ := h.cells
  clear h
  go_enter Tryd.func19, Tryd.ntmps19
  go_wp2
  go_loopw [11] (fun iv wx => iv = .int .i64 0 ∧ wx = w) (fun _ _ => 0)
  case atStart => exact ⟨rfl, rfl⟩
  case round =>
    obtain ⟨rfl, rfl⟩ := hrel
    go_wp2
    go_ret
    exact ⟨rfl, rfl⟩
set_option maxHeartbeats 1000000 in
theorem rholder_one (r g cap : Nat) (ms : List KV) (ma : Option Addr) (mc : Nat) (lv : Value) (id : ByteArray) (w : World) (h : RHost w r ms ma mc lv (.slice (some ⟨g, 0, none⟩) 1 cap)) (hg : w.cell? ⟨g, 0, none⟩ = some (.string id)) :
    Calls Tryd.prog 19 #[.pointer (some ⟨r, 0, none⟩), .string id] w fun e w' => e = .returned (.pointer (some ⟨g, 0, none⟩)) ∧ w' = w := by
  obtain ⟨c0, c2⟩ := h.cells
  clear h
  go_enter Tryd.func19, Tryd.ntmps19
  go_wp2
  go_loopw [11] (fun iv wx => iv = .int .i64 0 ∧ wx = w) (fun _ _ => 0)
  case atStart => exact ⟨rfl, rfl⟩
  case round =>
    obtain ⟨rfl, rfl⟩ := hrel
    go_wp2
    go_ret
    exact ⟨rfl, rfl⟩
theorem ramount_any (n : Int) (w : World) :
    Calls Tryd.prog 17 #[.int .i64 n] w fun e w' => e = .returned (.bool (inB n 0 999999999999)) ∧ w' = w := by
  by_cases h1 : 0 ≤ n
  · have HQ : Hid (inB n 0 999999999999 = decide (n ≤ 999999999999)) := hide (decide_eq_decide.2 (by omega))
    go_enter Tryd.func17, Tryd.ntmps17
    go_wp2
    go_ret
    exact ⟨ret_bool (unhide HQ).symm, rfl⟩
  · have HQ : Hid (inB n 0 999999999999 = false) := hide (decide_eq_false (by omega))
    go_enter Tryd.func17, Tryd.ntmps17
    go_wp2
    go_ret
    exact ⟨ret_bool (unhide HQ).symm, rfl⟩
end Go.Proofs.YtbiipeapcclbkaaDoor
