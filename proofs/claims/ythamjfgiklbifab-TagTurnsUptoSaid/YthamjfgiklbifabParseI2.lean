/- Parse of the program; sameItems of the law, of one list that lies twice. -/
import Derived.Test.YthamjfgiklbifabParseI
namespace Go.Proofs.Ythamjfgiklbifab
open Go.RowKit
set_option linter.unusedVariables false

theorem item_wt {d : Nat} {s : ByteArray} {x : It} {r : ByteArray} (ih : ∀ s l, parseD d s = some l → wt d l ≤ s.size) (h : itemAt (parseD d) s = some (x, r)) : 1 + x.text.size + wt d x.list + r.size ≤ s.size := by
  have h1 := (tagSz_le s.data.toList).1
  unfold itemAt at h
  split at h
  · cases h
  · split at h
    · cases h
    · split at h
      · cases h
      · rename_i n k hl
        have hk := lenAt_lt hl
        rw [behind_size] at hk
        split at h
        · cases h
        · rename_i hn
          rw [behind_size, behind_size] at hn
          split at h
          · cases hp : parseD d ((behind (behind s (tagSz s.data.toList)) k).extract 0 n) with
            | none => rw [hp] at h; cases h
            | some l =>
              rw [hp] at h
              have e := Option.some.inj h
              have e1 := (Prod.ext_iff.1 e).1
              have e2 := (Prod.ext_iff.1 e).2
              simp only at e1 e2
              have := ih _ _ hp
              rw [ByteArray.size_extract, behind_size, behind_size] at this
              rw [← e1, ← e2, behind_size, behind_size, behind_size]
              simp only [It.text, It.list]
              have : (⟨#[]⟩ : ByteArray).size = 0 := rfl
              omega
          · have e := Option.some.inj h
            have e1 := (Prod.ext_iff.1 e).1
            have e2 := (Prod.ext_iff.1 e).2
            simp only at e1 e2
            rw [← e1, ← e2, behind_size, behind_size, behind_size]
            simp only [It.text, It.list, wt_nil]
            rw [ByteArray.size_extract, behind_size, behind_size]
            omega
theorem list_wt {d : Nat} (ih : ∀ s l, parseD d s = some l → wt d l ≤ s.size) : ∀ (f : Nat) (s : ByteArray) (l : List It), listP (parseD d) f s = some l → wt (d + 1) l ≤ s.size
  | 0, s, l, h => by
    unfold listP at h
    split at h
    · cases h; simp [wt]
    · cases h
  | f + 1, s, l, h => by
    by_cases hz : s.size = 0
    · rw [listP_empty _ _ hz] at h; cases h; simp [wt]
    · rw [listP_step hz] at h
      cases hi : itemAt (parseD d) s with
      | none => rw [hi] at h; cases h
      | some xr =>
        obtain ⟨x, r⟩ := xr
        rw [hi] at h
        simp only at h
        cases hr : listP (parseD d) f r with
        | none => rw [hr] at h; cases h
        | some m =>
          rw [hr] at h
          have h1 := item_wt ih hi
          have h2 := list_wt ih f r m hr
          have e : l = x :: m := (Option.some.inj h).symm
          rw [e]
          simp only [wt, List.map_cons, List.sum_cons] at h2 ⊢
          omega
theorem parse_wt : ∀ (d : Nat) (s : ByteArray) (l : List It), parseD d s = some l → wt d l ≤ s.size
  | 0, s, l, h => by simp [wt]
  | d + 1, s, l, h => list_wt (parse_wt d) s.size s l h

/-- what Parse answers -/
def parsesL (s : ByteArray) : List It := if 65535 < s.size then [] else (parseD 8 s).getD []
def parsesE (s : ByteArray) : Int := if 65535 < s.size then 2 else if (parseD 8 s).isSome then 0 else 1
theorem parses_wt (s : ByteArray) : wt 8 (parsesL s) ≤ 65535 := by
  unfold parsesL
  split
  · rw [wt_nil]; omega
  · cases h : parseD 8 s with
    | none => simp [wt_nil]
    | some l => have := parse_wt 8 s l h; simp only [Option.getD_some]; omega

set_option maxRecDepth 1000000 in
theorem parse_any (s : ByteArray) (w : World) (hs : s.size ≤ maxLen) :
    Calls Try.prog 9 #[.string s] w fun e w' => ∃ ao cap, e = .returned (.tuple #[.slice ao (parsesL s).length cap, .int .i64 (parsesE s)]) ∧ (parsesL s).length ≤ cap ∧ IRowA w' (fun b => w.heap.size ≤ b) 8 ao (parsesL s) ∧ Below w.heap.size w w' := by
  unfold maxLen at hs
  by_cases hb : 65535 < s.size
  · have h1 : parsesL s = [] := by unfold parsesL; rw [if_pos hb]
    have h2 : parsesE s = 2 := by unfold parsesE; rw [if_pos hb]
    rw [h1, h2]
    have t1 : decide (65535 < (s.size : Int)) = true := by simp; omega
    clear h1 h2
    go_enter Try.func9, Try.ntmps9
    go_wp2
    go_ret2
    exact ⟨none, 0, rfl, Nat.le_refl _, IRowA.nil _ _ _ _, Below.refl _ _⟩
  · have n1 := fun w => parseItems_any 8 (Nat.le_refl _) s w (by omega)
    have h1 : parsesL s = (parseD 8 s).getD [] := by unfold parsesL; rw [if_neg hb]
    have h2 : parsesE s = if (parseD 8 s).isSome then 0 else 1 := by unfold parsesE; rw [if_neg hb]
    rw [h1, h2]
    have hd : (9 : Int) - ((8 : Nat) : Int) = 1 := by omega
    rw [hd] at n1
    have t1 : decide (65535 < (s.size : Int)) = false := by simp; omega
    clear h1 h2 hd
    cases hp : parseD 8 s with
    | none =>
      rw [hp] at n1
      have N1 := hide n1
      clear n1 hp hb
      go_enter Try.func9, Try.ntmps9
      go_wp2_with fail
      refine (unhide N1 _).mono ?_
      rintro e w2 ⟨⟨v, n, cap, rfl⟩, hb2⟩
      go_wp2
      go_ret2
      first
        | exact ⟨none, 0, rfl, Nat.le_refl _, IRowA.nil _ _ _ _, hb2⟩
        | exact ⟨none, ⟨0, rfl⟩, IRowA.nil _ _ _ _, hb2⟩
    | some l =>
      rw [hp] at n1
      have N1 := hide n1
      clear n1 hp hb
      go_enter Try.func9, Try.ntmps9
      go_wp2_with fail
      refine (unhide N1 _).mono ?_
      rintro e w2 ⟨⟨ao, cap, rfl, hcap, hrow⟩, hb2⟩
      have HW := hide hrow
      clear hrow
      go_wp2
      go_ret2
      exact ⟨ao, cap, rfl, hcap, unhide HW, hb2⟩

theorem below_self (w : World) (q : Nat) : Below w.heap.size w (w.drewN q) := ⟨rfl, rfl, rfl, Nat.le_refl _, fun _ _ => rfl⟩

set_option maxRecDepth 1000000 in
set_option maxHeartbeats 4000000 in
theorem sameI_any : ∀ (d : Nat) (l : List It) (ao bo : Option Addr) (c c' : Nat) (w : World), IRow w d ao l → IRow w d bo l → wt d l ≤ 1048576 →
    Calls Try.prog 11 #[.slice ao l.length c, .slice bo l.length c'] w fun e w' => e = .returned (.bool true) ∧ ∃ q, w' = w.drewN q
  | 0, l, ao, bo, c, c', w, hr, hr', hw => by
    have hl : l = [] := hr
    subst hl
    clear hr hr' hw
    go_enter Try.func11, Try.ntmps11
    go_wp2
    go_loopw [13] (fun i wr => i = .int .i64 0 ∧ ∃ q, wr = w.drewN q) (fun i _ => 0)
    case atStart => exact ⟨rfl, 0, rfl⟩
    case round =>
      obtain ⟨rfl, q, rfl⟩ := hrel
      go_wp2
      go_ret
      exact ⟨rfl, _, rfl⟩
  | d + 1, l, ao, bo, c, c', w, hr, hr', hw => by
    have hlen := hr.length_le
    have hlm : (l.length : Int) ≤ 1048576 := by omega
    have IH := hide (sameI_any d)
    have HR := hide hr; have HR' := hide hr'; have HW := hide hw
    clear hr hr' hw hlen
    go_enter Try.func11, Try.ntmps11
    go_wp2
    go_loopw [13] (fun i wr => ∃ k : Nat, k ≤ l.length ∧ i = .int .i64 k ∧ ∃ q, wr = w.drewN q) (fun i _ => l.length - (intOf i).toNat)
    case atStart => exact ⟨0, Nat.zero_le _, rfl, 0, rfl⟩
    case round =>
      obtain ⟨k, hk, rfl, hq⟩ := hrel
      have hbw : Below w.heap.size w wr := by obtain ⟨q, rfl⟩ := hq; exact below_self _ _
      have hmore : ∀ n, ∃ q, wr.drewN n = w.drewN q := fun n => by obtain ⟨q, rfl⟩ := hq; exact ⟨q + n, World.drewN_drewN _ _ _⟩
      by_cases hlt : k < l.length
      · rcases unhide HR with hnil | ⟨b, off, rfl, hb, hc⟩
        · rw [hnil] at hlt; simp at hlt
        rcases unhide HR' with hnil | ⟨b', off', rfl, hb', hc'⟩
        · rw [hnil] at hlt; simp at hlt
        obtain ⟨x, hx⟩ := get_of_lt hlt
        obtain ⟨co, cc, c0, c1, c2, hcc, hsub, htag, htxt⟩ := hc k x hx
        obtain ⟨do', dc, e0, e1, e2, hdc, hsub', _, _⟩ := hc' k x hx
        have hwx := wt_get (d := d) hx
        have hww := unhide HW
        have N2 := hide (fun (w2 : World) (h : Below wr.heap.size wr w2) => unhide IH x.list co do' cc dc w2 (IRow.below (below_more hbw hbw.size h) d hsub) (IRow.below (below_more hbw hbw.size h) d hsub') (by omega))
        have d0 : wr.cell? ⟨b, off + k * 3, none⟩ = _ := (hbw.cell (p := ⟨b, off + k * 3, none⟩) hb).trans c0
        have d1 : wr.cell? ⟨b, off + k * 3 + 1, none⟩ = _ := (hbw.cell (p := ⟨b, off + k * 3 + 1, none⟩) hb).trans c1
        have d2 : wr.cell? ⟨b, off + k * 3 + 2, none⟩ = _ := (hbw.cell (p := ⟨b, off + k * 3 + 2, none⟩) hb).trans c2
        have f0 : wr.cell? ⟨b', off' + k * 3, none⟩ = _ := (hbw.cell (p := ⟨b', off' + k * 3, none⟩) hb').trans e0
        have f1 : wr.cell? ⟨b', off' + k * 3 + 1, none⟩ = _ := (hbw.cell (p := ⟨b', off' + k * 3 + 1, none⟩) hb').trans e1
        have f2 : wr.cell? ⟨b', off' + k * 3 + 2, none⟩ = _ := (hbw.cell (p := ⟨b', off' + k * 3 + 2, none⟩) hb').trans e2
        have hki : (k : Int) < (l.length : Int) := by omega
        generalize x.tag = xt at *
        generalize x.text = xs at *
        generalize x.list.length = xn at *
        have HM := hide hmore
        clear hc hc' hwx hww hsub hsub' HR HR' HW IH hx c0 c1 c2 e0 e1 e2 hmore hq hbw
        go_wp2_with fail
        go_quiet ((go_at_call 11; exact Calls.quiet_of (unhide N2 _ (below_self _ _))))
        go_wp2
        go_roundw
        case rel => exact ⟨k + 1, by omega, by go_num, unhide HM _⟩
        case measure => simp [intOf]; omega
      · obtain ⟨q, rfl⟩ := hq
        go_wp2
        go_ret
        exact ⟨rfl, _, rfl⟩
end Go.Proofs.Ythamjfgiklbifab
