/- The walk of LineLoses. -/
import Derived.Test.YthchicolifkpiaaDoorLsD
import Derived.Test.YthchicolifkpiaaDoorLosW0a
import Derived.Test.YthchicolifkpiaaDoorLosW0b
import Derived.Test.YthchicolifkpiaaDoorLosW0c
import Derived.Test.YthchicolifkpiaaDoorLosW0d
import Derived.Test.YthchicolifkpiaaDoorLosW0e
import Derived.Test.YthchicolifkpiaaDoorLosW0f
import Derived.Test.YthchicolifkpiaaDoorLosW1a
import Derived.Test.YthchicolifkpiaaDoorLosW1b
import Derived.Test.YthchicolifkpiaaDoorLosW1c
import Derived.Test.YthchicolifkpiaaDoorLosW1d
import Derived.Test.YthchicolifkpiaaDoorLosW1e
import Derived.Test.YthchicolifkpiaaDoorLosW1f
import Derived.BigQuiet
namespace Go.Proofs.YthchicolifkpiaaDoor
open Go.RowKit
set_option linter.unusedVariables false

theorem hap_all (w0 w : World) (nb base : Nat) (e : Nat → Nat) (K hv hy : Nat) (hk8 : hv < 256) (hy8 : hy < 256) (hK : K < 1048576) (ht : Tab w0) (h : HapMid w0 w nb base e K) :
    Calls Tryd.prog 21 #[ptrE nb, .int .i64 (hv : Int), .int .i64 (hy : Int)] w fun ev w' => ev = .returned (.tuple #[]) ∧ HapMid w0 w' nb base e (K + 1) := by
  rcases (show hv % 2 = 0 ∨ hv % 2 = 1 by omega) with h2 | h2
  · rcases (show hv / 2 % 8 = 0 ∨ (1 ≤ hv / 2 % 8 ∧ hv / 2 % 8 ≤ 2) ∨ (3 ≤ hv / 2 % 8 ∧ hv / 2 % 8 ≤ 5) ∨ 6 ≤ hv / 2 % 8 by omega) with hkk | hkk | hkk | hkk
    · exact hap_0a w0 w nb base e K hv hy hk8 hy8 h2 hkk hK ht h
    · exact hap_0b w0 w nb base e K hv hy hk8 hy8 h2 hkk hK ht h
    · rcases (show hy % 5 ≤ 1 ∨ 2 ≤ hy % 5 by omega) with hzz | hzz
      · exact hap_0c w0 w nb base e K hv hy hk8 hy8 h2 hkk hzz hK ht h
      · rcases (show hy % 5 = 2 ∨ 3 ≤ hy % 5 by omega) with hzz | hzz
        · exact hap_0e w0 w nb base e K hv hy hk8 hy8 h2 hkk hzz hK ht h
        · exact hap_0f w0 w nb base e K hv hy hk8 hy8 h2 hkk hzz hK ht h
    · exact hap_0d w0 w nb base e K hv hy hk8 hy8 h2 hkk hK ht h
  · rcases (show hv / 2 % 8 = 0 ∨ (1 ≤ hv / 2 % 8 ∧ hv / 2 % 8 ≤ 2) ∨ (3 ≤ hv / 2 % 8 ∧ hv / 2 % 8 ≤ 5) ∨ 6 ≤ hv / 2 % 8 by omega) with hkk | hkk | hkk | hkk
    · exact hap_1a w0 w nb base e K hv hy hk8 hy8 h2 hkk hK ht h
    · exact hap_1b w0 w nb base e K hv hy hk8 hy8 h2 hkk hK ht h
    · rcases (show hy % 5 ≤ 1 ∨ 2 ≤ hy % 5 by omega) with hzz | hzz
      · exact hap_1c w0 w nb base e K hv hy hk8 hy8 h2 hkk hzz hK ht h
      · rcases (show hy % 5 = 2 ∨ 3 ≤ hy % 5 by omega) with hzz | hzz
        · exact hap_1e w0 w nb base e K hv hy hk8 hy8 h2 hkk hzz hK ht h
        · exact hap_1f w0 w nb base e K hv hy hk8 hy8 h2 hkk hzz hK ht h
    · exact hap_1d w0 w nb base e K hv hy hk8 hy8 h2 hkk hK ht h
theorem HapMid.drew {w0 w : World} {nb base : Nat} {e : Nat → Nat} {K : Nat} (h : HapMid w0 w nb base e K) : HapMid w0 w.drew nb base e K := by
  obtain ⟨D, x, t, W, R, v, U, g, r, h1, h2, h3, h4⟩ := h
  exact ⟨D, x, t, W, R, v, U, g, r, h1.drew, h2, h3.drew, h4⟩
theorem step_call_law3 {P : Program} {ops : Array Oper} {o : Oper} {a : Act} {w : World} {K : Act → World → Prop} {Q : Exit → Act → World → Prop} {E : Prop} (hgd : o.guard = none) (f : FuncId) (x y z : Operand) (ts : Array TypeId)
    (ho : o.op = .call { callee := .value (.func f), args := #[x, y, z], argTypes := ts }) (u v s : Value) (hx : a.eval x = u) (hy : a.eval y = v) (hz : a.eval z = s) (hf : ∀ args w, (callFunc f args).run P w = .ok (.enter f args) w)
    {S : Ending → World → Prop} (hc : Calls P f #[u, v, s] w S) (hv : ∀ e w', S e w' → ∃ v, e = .returned v ∧ K (a.put o.dst v) w') :
    if Region.wanted o (yielded ops a.tmps) = true then Oper.wp P o a w K Q else E := by
  have hw : Region.wanted o (yielded ops a.tmps) = true := by simp [Region.wanted, hgd]
  rw [if_pos hw]
  obtain ⟨dst, op, ty, pos, after, guard⟩ := o
  cases ho
  have hrun : (execOp a.eval { dst, op := .call { callee := .value (.func f), args := #[x, y, z], argTypes := ts }, type := ty, pos, after, guard }).run P w = .ok (.enter f #[u, v, s]) w := by
    show (callFunc f (#[] ++ #[x, y, z].map a.eval ++ #[])).run P w = _
    have e : (#[] ++ #[x, y, z].map a.eval ++ #[]) = #[u, v, s] := by simp [hx, hy, hz]
    rw [e]; exact hf _ _
  unfold Oper.wp
  rw [hrun, Oper.upon_enter]
  refine hc.mono fun e w' hh => ?_
  obtain ⟨v, rfl, hk⟩ := hv e w' hh
  exact hk
theorem ent_hap (args : Array Value) (w : World) : (callFunc 21 args).run Tryd.prog w = .ok (.enter 21 args) w := by kernel_rfl
theorem Pl.new : Pl 0 (fun _ => []) (fun _ => ⟨0, 0, 0, 0, false⟩) (fun _ => 0) (fun _ => []) (fun _ => []) :=
  ⟨fun _ _ => Two.new, (fun _ _ s hs => by cases hs), fun _ _ => Nat.le_refl _, fun _ _ => ⟨by rw [List.take_zero], Nat.zero_le _⟩, fun _ _ => rfl, fun _ _ => Nat.le_refl _⟩
/-- a byte of the script -/
theorem byte_at {w wr : World} {b off : Nat} {l : List Int} (hb : b < w.heap.size) (hc : ∀ i x, l[i]? = some x → w.cell? ⟨b, off + i, none⟩ = some (.int .u8 x)) (hok : ∀ x ∈ l, 0 ≤ x ∧ x ≤ 255) (hw : Below w.heap.size w wr) (k : Nat) (hk : k < l.length) :
    ∃ y : Nat, y < 256 ∧ wr.cell? ⟨b, off + k, none⟩ = some (.int .u8 (y : Int)) := by
  have hx := hok l[k] (List.getElem_mem hk)
  refine ⟨l[k].toNat, by omega, ?_⟩
  rw [show ((l[k].toNat : Nat) : Int) = l[k] by omega]
  exact (hw.cell (p := ⟨b, off + k, none⟩) hb).trans (hc k _ (List.getElem?_eq_getElem hk))

/-- behind c rounds -/
def Inv4 (w : World) (nb base : Nat) (e : Nat → Nat) (D : Nat → List ByteArray) (N : Nat) (X0 : Nd × Nd) (cv : Value) (wy : World) : Prop :=
  ∃ (c : Nat) (x2 : Nat → Nd) (t2 : Nat → Nat) (R2 : Nat → List ByteArray) (v2 : Nat → Value) (U2 : Nat → List ByteArray) (g2 r2 : Nat → Value), c ≤ N ∧ cv = .int .i64 (c : Int) ∧ NA wy nb base e D x2 t2 v2 U2 g2 D r2 R2 ∧ Below base w wy ∧ Pl 1048576 D x2 t2 (fun _ => []) R2 ∧ (x2 0, x2 1) = rounds c X0 ∧ (1 ≤ c → ∀ q, q < 2 → t2 q = (gotOf (D (1 - q)) (x2 q).m).length)
/-- behind j halves of a round -/
def Inv5 (w : World) (nb base : Nat) (e : Nat → Nat) (D : Nat → List ByteArray) (x2 : Nat → Nd) (jv : Value) (wy : World) : Prop :=
  ∃ (j : Nat) (x3 : Nat → Nd) (t3 : Nat → Nat) (R3 : Nat → List ByteArray) (v3 : Nat → Value) (U3 : Nat → List ByteArray) (g3 r3 : Nat → Value), j ≤ 2 ∧ jv = .int .i64 (j : Int) ∧ NA wy nb base e D x3 t3 v3 U3 g3 D r3 R3 ∧ Below base w wy ∧ Pl 1048576 D x3 t3 (fun _ => []) R3 ∧ x3 = (if j = 0 then x2 else if j = 1 then halfF x2 0 else halfF (halfF x2 0) 1) ∧ (∀ q, q < 2 → 2 ≤ j + q → t3 q = (gotOf (D (1 - q)) (x3 q).m).length)
/-- behind k frames that were heard -/
def Inv6 (nb base : Nat) (e : Nat → Nat) (D : Nat → List ByteArray) (xh : Nat → Nd) (t3 : Nat → Nat) (v3 : Nat → Value) (U3 : Nat → List ByteArray) (g3 r3 : Nat → Value) (R3 : Nat → List ByteArray) (w1 : World) (n : Nat) (kv : Value) (wz : World) : Prop :=
  ∃ k : Nat, k ≤ n ∧ kv = .int .i64 (k : Int) ∧ ((k = 0 ∧ wz = w1) ∨ (k = 1 ∧ NA wz nb base e D xh t3 v3 U3 g3 D r3 R3 ∧ Below base w1 wz))

set_option maxRecDepth 100000 in
set_option maxHeartbeats 32000000 in
theorem walkLineLoses (l : List Int) (ao : Option Addr) (cap : Nat) (w : World) (hr : Rowuint8 w ao l) (hb : l.length ≤ 1048576) (ht : Tab w) :
    Calls Tryd.prog 4 #[.slice ao l.length cap] w fun e w' => e = .returned (.bool true) ∧ Below w.heap.size w w' := by
  have h0 : 0 < w.heap.size := World.block_lt_of_cell? _ _ (ht 0 (by decide))
  have N0 := hide (newNoisy_any w h0)
  have u1 : IntKind.i64.wrap 1 = 1 := by decide
  have u0 : IntKind.i64.wrap 0 = 0 := by decide
  obtain ⟨i0, hi0, hz0, hz1, hz2⟩ := info_parts' infoStr
  have HI := hide hi0; have Z0 := hide hz0; have Z1 := hide hz1; have Z2 := hide hz2
  have HR := hide hr; have HTB := hide ht
  clear hi0 hz0 hz1 hz2 hr ht
  go_enter Tryd.func4, Tryd.ntmps4
  go_wp2_with fail
  refine (unhide N0).mono ?_
  rintro ev w1 ⟨hb1, nb, e0, e1, rfl, hN⟩
  obtain ⟨e, he⟩ : ∃ e, e = at2 e0 e1 := ⟨_, rfl⟩
  rw [← he] at hN
  obtain ⟨base, hbase⟩ : ∃ base, base = w.heap.size := ⟨_, rfl⟩
  have hM : HapMid w w1 nb base e 0 := by
    rw [hbase]
    exact ⟨_, _, _, fun _ => [], _, _, _, _, _, ⟨_, _, hN⟩, fun i hi => rfl, hb1, Pl.new⟩
  obtain ⟨⟨c0, c1, c2, c3, c4, c5, c6, c7⟩, hfz⟩ := eight_cells hN.blk
  have HBS := hide hbase
  have HM := hide hM
  clear hfz hN hb1 he N0 hM hbase c2 c3 c4 c5 c6 c7
  go_wp2_with fail
  clear c0 c1
  go_loopw [4] (fun iv wr => ∃ m : Nat, m ≤ l.length ∧ iv = .int .i64 (m : Int) ∧ HapMid w wr nb base e m) (fun iv _ => l.length + 2 - (intOf iv).toNat)
  case atStart => exact ⟨0, Nat.zero_le _, rfl, unhide HM⟩
  case round =>
    obtain ⟨m, hm, rfl, hM⟩ := hrel
    clear HM
    have hmi : (m : Int) ≤ 1048576 := by omega
    by_cases hlt : m + 1 < l.length
    · have hBw : Below w.heap.size w wr := by
        obtain ⟨D, x, t, W, R, v, U, g, r, h1, h2, h3, h4⟩ := hM
        rw [← unhide HBS]; exact h3
      rcases (unhide HR).1 with hnil | ⟨b, off, rfl, hbl, hcl⟩
      · rw [hnil] at hlt; simp at hlt
      obtain ⟨y0, hy0, cA⟩ := byte_at hbl hcl (unhide HR).2.1 hBw m (by omega)
      obtain ⟨y1, hy1, cB⟩ := byte_at hbl hcl (unhide HR).2.1 hBw (m + 1) hlt
      have hlti : (m : Int) + 1 < (l.length : Int) := by omega
      have N1 := hide (hap_all w wr.drew nb base e m y0 y1 hy0 hy1 (by omega) (unhide HTB) hM.drew)
      have hml : m < l.length := by omega
      have h0m : (0 : Int) ≤ (m : Int) + 1 := by omega
      have hwm : IntKind.i64.wrap ((m : Int) + 1) = (m : Int) + 1 := wraps_i64 _ (by omega) (by omega)
      have hy0i : (y0 : Int) < 256 := by omega
      have hy1i : (y1 : Int) < 256 := by omega
      have hwy0 : IntKind.i64.wrap (y0 : Int) = (y0 : Int) := wraps_i64 _ (by omega) (by omega)
      have hwy1 : IntKind.i64.wrap (y1 : Int) = (y1 : Int) := wraps_i64 _ (by omega) (by omega)
      clear hM hBw hbl hcl hy0 hy1
      go_wp2_with fail
      go_region_law ((refine step_call_law3 (by rfl) 21 _ _ _ _ (by rfl) (ptrE nb) (.int .i64 (y0 : Int)) (.int .i64 (y1 : Int)) (by rfl) (by rfl) (by rfl) ent_hap (unhide N1) ?_; rintro ev w2 ⟨rfl, hM2⟩; refine ⟨_, rfl, ?_⟩; have HM2 := hide hM2; clear hM2))
      all_goals
        go_wp2_with fail
        refine ((unhide HM2).right (by omega)).mono ?_
        rintro ev w3 ⟨rfl, k, rfl⟩
        go_wp2_with fail
        go_roundw
        case rel => exact ⟨m + 2, by omega, by go_num, ((unhide HM2).drewN k).mono (by omega)⟩
        case measure => simp [intOf]; omega
    · have hlti : ¬ (m : Int) + 1 < (l.length : Int) := by omega
      obtain ⟨D, x, t, W, R, v, U, g, r, hN, hU, hB, hP⟩ := hM
      have hP' : Pl 1048576 D x t W R := hP.mono (by omega)
      have HX : Hid (∃ W v U, NA wr nb base e D x t v U g D r R ∧ Below base w wr ∧ Pl 1048576 D x t W R) := hide ⟨W, v, U, hN, hB, hP'⟩
      clear hlt hN hU hB hP hP' W v U hmi
      go_wp2_with fail
      go_loopw [50, 5] (fun iv pv wx => ∃ (j P : Nat) (W : Nat → List Fr) (v : Nat → Value) (U : Nat → List ByteArray), iv = .int .i64 (j : Int) ∧ pv = .int .i64 (P : Int) ∧ j ≤ 2 ∧ NA wx nb base e D x t v U g D r R ∧ Below base w wx ∧ Pl 1048576 D x t W R ∧ (∀ i, i < j → W i = []) ∧ P = 8 + (if 0 < j then pSum (D 0) else 0) + (if 1 < j then pSum (D 1) else 0)) (fun iv _ _ => 2 - (intOf iv).toNat)
      case atStart =>
        obtain ⟨W, v, U, h1, h2, h3⟩ := unhide HX
        exact ⟨0, 8, W, v, U, rfl, rfl, by omega, h1, h2, h3, fun i hi => by omega, rfl⟩
      case round =>
        obtain ⟨j, P, W, v, U, rfl, rfl, hj, hN, hB, hP, hW, hPP⟩ := hrel
        clear HX hlti
        rcases (show j = 0 ∨ j = 1 ∨ j = 2 by omega) with rfl | rfl | rfl
        · obtain ⟨ga, gc, hg0, hgl, sg⟩ := (hN.winG (i := 0) (by omega)).srow
          have hblk := hN.cells.1
          rw [hg0] at hblk
          obtain ⟨⟨c0, c1, c2, c3, c4, c5, c6, c7⟩, hfz⟩ := eight_cells hblk
          have hf := hfz 2
          have hnb := hN.cells.2.1
          obtain ⟨hN2, hB2⟩ := hN.nilV (i := 0) (by omega)
          have hP2 := hP.ways (i := 0) (by omega) (hP.two 0 (by omega)).clear (Nat.zero_le _)
          have hln := hP.ln 0 (by omega)
          have hsm := pSum_le (D 0) (hP.sz 0 (by omega))
          have hsz := hP.sz 0 (by omega)
          have hPb : P ≤ 200000000 := by
            have h0 := pSum_le (D 0) (hP.sz 0 (by omega))
            have h1 := hP.ln 0 (by omega)
            rw [hPP]; split <;> split <;> omega
          have HN2 := hide hN2; have HB2 := hide (hB.trans hB2); have HP2 := hide hP2; have HW := hide hW; have HPP := hide hPP; have HSG := hide sg; have HSZ := hide hsz
          have hgl2 : ((D 0).length : Int) ≤ 1048576 := by omega
          have hPi : (P : Int) ≤ 200000000 := by omega
          clear hN hB hP hW hPP hfz hblk hg0 sg hN2 hB2 hP2 hsz hj
          go_wp2_with fail
          go_loopw [60, 5] (fun kv pv wy => ∃ k Q : Nat, k ≤ (D 0).length ∧ kv = .int .i64 (k : Int) ∧ pv = .int .i64 (Q : Int) ∧ Q = P + pSum ((D 0).take k) ∧ wy = wr) (fun kv _ _ => (D 0).length - (intOf kv).toNat)
          case atStart => exact ⟨0, P, Nat.zero_le _, rfl, rfl, by rw [List.take_zero]; rfl, rfl⟩
          case round =>
            obtain ⟨k, Q, hk, rfl, rfl, hQ, rfl⟩ := hrel
            have hQb : Q ≤ 400000000 := by have := pSum_mono (D 0) k; omega
            by_cases hlt : k < (D 0).length
            · obtain ⟨s, hs⟩ : ∃ s, (D 0)[k]? = some s := ⟨_, List.getElem?_eq_getElem hlt⟩
              rcases unhide HSG with hnil | ⟨b, off, rfl, hbl, hcl⟩
              · rw [hnil] at hlt; simp at hlt
              have ck := hcl k s hs
              have hsb : s.size ≤ 4096 := unhide HSZ s (List.mem_of_getElem? hs)
              have hstep := pSum_take _ _ _ hs
              have hlti : (k : Int) < ((D 0).length : Int) := by omega
              have hsi : (s.size : Int) ≤ 4096 := by omega
              have hQi : (Q : Int) ≤ 400000000 := by omega
              have HQ : Hid (Q + (s.size / 32 + 1) = P + pSum ((D 0).take (k + 1))) := hide (by rw [hQ, hstep]; omega)
              clear hcl hs hQ hQb hstep
              go_wp2_with fail
              go_roundw
              case rel => exact ⟨k + 1, Q + (s.size / 32 + 1), by omega, by go_num, by go_num, unhide HQ, by trivial⟩
              case measure => simp [intOf]; omega
            · have hlti : ¬ (k : Int) < ((D 0).length : Int) := by omega
              have hkl : k = (D 0).length := by omega
              have HQ : Hid (Q = P + pSum (D 0)) := hide (by rw [hQ, hkl, List.take_length])
              clear hQ hlt hkl
              go_wp2_with fail
              go_roundw
              case rel =>
                refine ⟨1, Q, _, _, _, by go_num, rfl, by omega, unhide HN2, unhide HB2, unhide HP2, fun i hi => ?_, ?_⟩
                · have : i = 0 := by omega
                  subst this; exact upd_same _ _ _
                · rw [unhide HQ, unhide HPP]; simp
              case measure => simp [intOf]
        · obtain ⟨ga, gc, hg0, hgl, sg⟩ := (hN.winG (i := 1) (by omega)).srow
          have hblk := hN.cells.1
          rw [hg0] at hblk
          obtain ⟨⟨c0, c1, c2, c3, c4, c5, c6, c7⟩, hfz⟩ := eight_cells hblk
          have hf := hfz 3
          have hnb := hN.cells.2.1
          obtain ⟨hN2, hB2⟩ := hN.nilV (i := 1) (by omega)
          have hP2 := hP.ways (i := 1) (by omega) (hP.two 1 (by omega)).clear (Nat.zero_le _)
          have hln := hP.ln 1 (by omega)
          have hsm := pSum_le (D 1) (hP.sz 1 (by omega))
          have hsz := hP.sz 1 (by omega)
          have hPb : P ≤ 200000000 := by
            have h0 := pSum_le (D 0) (hP.sz 0 (by omega))
            have h1 := hP.ln 0 (by omega)
            rw [hPP]; split <;> split <;> omega
          have HN2 := hide hN2; have HB2 := hide (hB.trans hB2); have HP2 := hide hP2; have HW := hide hW; have HPP := hide hPP; have HSG := hide sg; have HSZ := hide hsz
          have hgl2 : ((D 1).length : Int) ≤ 1048576 := by omega
          have hPi : (P : Int) ≤ 200000000 := by omega
          clear hN hB hP hW hPP hfz hblk hg0 sg hN2 hB2 hP2 hsz hj
          go_wp2_with fail
          go_loopw [60, 5] (fun kv pv wy => ∃ k Q : Nat, k ≤ (D 1).length ∧ kv = .int .i64 (k : Int) ∧ pv = .int .i64 (Q : Int) ∧ Q = P + pSum ((D 1).take k) ∧ wy = wr) (fun kv _ _ => (D 1).length - (intOf kv).toNat)
          case atStart => exact ⟨0, P, Nat.zero_le _, rfl, rfl, by rw [List.take_zero]; rfl, rfl⟩
          case round =>
            obtain ⟨k, Q, hk, rfl, rfl, hQ, rfl⟩ := hrel
            have hQb : Q ≤ 400000000 := by have := pSum_mono (D 1) k; omega
            by_cases hlt : k < (D 1).length
            · obtain ⟨s, hs⟩ : ∃ s, (D 1)[k]? = some s := ⟨_, List.getElem?_eq_getElem hlt⟩
              rcases unhide HSG with hnil | ⟨b, off, rfl, hbl, hcl⟩
              · rw [hnil] at hlt; simp at hlt
              have ck := hcl k s hs
              have hsb : s.size ≤ 4096 := unhide HSZ s (List.mem_of_getElem? hs)
              have hstep := pSum_take _ _ _ hs
              have hlti : (k : Int) < ((D 1).length : Int) := by omega
              have hsi : (s.size : Int) ≤ 4096 := by omega
              have hQi : (Q : Int) ≤ 400000000 := by omega
              have HQ : Hid (Q + (s.size / 32 + 1) = P + pSum ((D 1).take (k + 1))) := hide (by rw [hQ, hstep]; omega)
              clear hcl hs hQ hQb hstep
              go_wp2_with fail
              go_roundw
              case rel => exact ⟨k + 1, Q + (s.size / 32 + 1), by omega, by go_num, by go_num, unhide HQ, by trivial⟩
              case measure => simp [intOf]; omega
            · have hlti : ¬ (k : Int) < ((D 1).length : Int) := by omega
              have hkl : k = (D 1).length := by omega
              have HQ : Hid (Q = P + pSum (D 1)) := hide (by rw [hQ, hkl, List.take_length])
              clear hQ hlt hkl
              go_wp2_with fail
              go_roundw
              case rel =>
                refine ⟨2, Q, _, _, _, by go_num, rfl, by omega, unhide HN2, unhide HB2, unhide HP2, fun i hi => ?_, ?_⟩
                · rcases (show i = 0 ∨ i = 1 by omega) with rfl | rfl
                  · rw [upd_other _ _ (by omega)]; exact unhide HW 0 (by omega)
                  · exact upd_same _ _ _
                · rw [unhide HQ, unhide HPP]; simp
              case measure => simp [intOf]
        · have hP0 : Pl 1048576 D x t (fun _ => []) R := ⟨fun i hi => by
              have := hP.two i hi
              rwa [hW i hi, hW (1 - i) (by omega)] at this, hP.sz, hP.ln, hP.ro, hP.le, fun i hi => Nat.zero_le _⟩
          have hNI : NI (x 0) (x 1) := by
            have := (hP0.two 0 (by omega))
            exact this.still
          have hPP' : P = 8 + pSum (D 0) + pSum (D 1) := by simpa using hPP
          have b0 := pSum_le (D 0) (hP.sz 0 (by omega))
          have b1 := pSum_le (D 1) (hP.sz 1 (by omega))
          have b2 := hP.ln 0 (by omega)
          have b3 := hP.ln 1 (by omega)
          have a0 := pSum_all (D 0)
          have a1 := pSum_all (D 1)
          have l0 := hP.le 0 (by omega)
          have l1 := hP.le 1 (by omega)
          obtain ⟨N, hNN⟩ : ∃ N, N = 7 * P := ⟨_, rfl⟩
          have hall := rounds_all (s := (x 0, x 1)) hNI N (by show 6 * ((x 0).L + (x 1).L) + 6 ≤ N; omega)
          obtain ⟨X0, hX0⟩ : ∃ X0, X0 = (x 0, x 1) := ⟨_, rfl⟩
          rw [← hX0] at hall
          have hw7 : IntKind.i64.wrap (7 * (P : Int)) = (N : Int) := by rw [wraps_i64 _ (by omega) (by omega)]; omega
          have hm7 : 7 * (P : Int) = (N : Int) := by omega
          have hN1 : 1 ≤ N := by omega
          have hNb : (N : Int) ≤ 9000000000 := by omega
          have HALL := hide hall
          have hl0 : X0.1.L = (piecesL (D 0)).length := by rw [hX0]; exact l0
          have hl1 : X0.2.L = (piecesL (D 1)).length := by rw [hX0]; exact l1
          have HL := hide (And.intro hl0 hl1)
          have HST : Hid (∃ (x2 : Nat → Nd) (t2 : Nat → Nat) (R2 : Nat → List ByteArray) (v2 : Nat → Value) (U2 : Nat → List ByteArray) (g2 r2 : Nat → Value), NA wr nb base e D x2 t2 v2 U2 g2 D r2 R2 ∧ Below base w wr ∧ Pl 1048576 D x2 t2 (fun _ => []) R2 ∧ (x2 0, x2 1) = rounds 0 X0) := hide ⟨x, t, R, v, U, g, r, hN, hB, hP0, by rw [hX0]; rfl⟩
          clear hall hl0 hl1 hP0 hNI hPP hPP' b0 b1 b2 b3 a0 a1 l0 l1 hN hB hP hW hX0 hNN hj
          go_wp2_with fail
          go_loopw [79] (fun cv wy => Inv4 w nb base e D N X0 cv wy) (fun cv _ => N - (intOf cv).toNat)
          case atStart =>
            obtain ⟨x2, t2, R2, v2, U2, g2, r2, k1, k2, k3, k4⟩ := unhide HST
            exact ⟨0, x2, t2, R2, v2, U2, g2, r2, Nat.zero_le _, rfl, k1, k2, k3, k4, fun h => by omega⟩
          case round =>
            obtain ⟨c, x2, t2, R2, v2, U2, g2, r2, hc, rfl, hN2, hB2, hP2, hpair, hex⟩ := hrel
            clear HST hw7 hm7
            by_cases hlt : c < N
            · have hlti : (c : Int) < (N : Int) := by omega
              have HST : Hid (∃ (t3 : Nat → Nat) (R3 : Nat → List ByteArray) (v3 : Nat → Value) (U3 : Nat → List ByteArray) (g3 r3 : Nat → Value), NA wr nb base e D x2 t3 v3 U3 g3 D r3 R3 ∧ Below base w wr ∧ Pl 1048576 D x2 t3 (fun _ => []) R3) := hide ⟨t2, R2, v2, U2, g2, r2, hN2, hB2, hP2⟩
              have HPA := hide hpair
              clear hN2 hB2 hP2 hpair hex hc HALL HL
              go_wp2_with fail
              go_loopw [81] (fun jv wy => Inv5 w nb base e D x2 jv wy) (fun jv _ => 2 - (intOf jv).toNat)
              case atStart =>
                obtain ⟨t3, R3, v3, U3, g3, r3, k1, k2, k3⟩ := unhide HST
                exact ⟨0, x2, t3, R3, v3, U3, g3, r3, by omega, rfl, k1, k2, k3, rfl, fun q h1 h2 => by omega⟩
              case round =>
                obtain ⟨j, x3, t3, R3, v3, U3, g3, r3, hj3, rfl, hN3, hB3, hP3, hxx, hex3⟩ := hrel
                clear HST
                rcases (show j = 0 ∨ j = 1 ∨ j = 2 by omega) with rfl | rfl | rfl
                · have hx3 : x2 = x3 := hxx.symm
                  subst hx3
                  have htab := (unhide HTB).below hB3 hN3.cells.2.2.2.2
                  have N1 := hide (n_take3 hN3 htab 0 (by omega) hP3.sz)
                  obtain ⟨⟨c0, c1, c2, c3, c4, c5, c6, c7⟩, hfz⟩ := eight_cells hN3.cells.1
                  obtain ⟨hPh, hcond⟩ := hP3.half (i := 0) (by omega)
                  have HPH := hide hPh; have HCO := hide hcond; have HP3 := hide hP3; have HB3 := hide hB3; have HEX := hide hex3
                  clear hPh hcond hP3 hB3 hex3 hN3 hfz htab hxx hj3
                  go_wp2_with fail
                  refine (unhide N1).mono ?_
                  rintro ev w1 ⟨fa, n, rfl, hn1, hs0, hs1, hN1, hB1⟩
                  have HN1 := hide hN1; have HB1 := hide hB1; have HS0 := hide hs0; have HS1 := hide hs1
                  clear hN1 hB1 hs0 hs1 N1 c0 c1 c2 c3 c4 c5 c6 c7
                  have hni : (n : Int) ≤ 1 := by omega
                  go_wp2_with fail
                  go_loopw [92] (fun kv wz => Inv6 nb base e D (halfF x2 0) t3 v3 U3 g3 r3 R3 w1 n kv wz) (fun kv _ => n - (intOf kv).toNat)
                  case atStart => exact ⟨0, Nat.zero_le _, rfl, .inl ⟨rfl, rfl⟩⟩
                  case round =>
                    obtain ⟨k, hk, rfl, hor⟩ := hrel
                    by_cases hlt : k < n
                    · have hk0 : k = 0 := by omega
                      have hn : n = 1 := by omega
                      subst hk0 hn
                      rcases hor with ⟨_, hwz⟩ | ⟨h1, _⟩
                      case inr => omega
                      subst hwz
                      obtain ⟨q, b, hsent, rfl, hbl, hcell⟩ := unhide HS1 rfl
                      have hcc := unhide HCO q _ hsent
                      have htab := (unhide HTB).below ((unhide HB3).trans (unhide HB1)) (unhide HN1).cells.2.2.2.2
                      have N2 := hide (n_hear (unhide HN1) htab 1 (by omega) (unhide HP3).sz (unhide HP3).ln q _ _ rfl hcc.1 hcc.2.1 hcc.2.2)
                      have HSE := hide hsent
                      obtain ⟨⟨c0, c1, c2, c3, c4, c5, c6, c7⟩, hfz⟩ := eight_cells (unhide HN1).cells.1
                      clear hcc htab hfz hsent hlt hk
                      go_wp2_with fail
                      refine (unhide N2).mono ?_
                      rintro ev w2 ⟨rfl, hN2, hB2⟩
                      have HN2 := hide hN2; have HB2 := hide hB2
                      clear hN2 hB2 N2
                      go_wp2_with fail
                      refine ⟨?_, ?measure⟩
                      (iterate 70 (try apply Exists.intro))
                      first | refine ⟨?rel, rfl⟩ | refine ⟨?rel, rfl, rfl⟩ | refine ⟨?rel, rfl, rfl, rfl⟩ | refine ⟨?rel, rfl, rfl, rfl, rfl⟩
                      case rel => exact ⟨1, by omega, by go_num, .inr ⟨rfl, by rw [half_one (by omega) (unhide HSE)]; exact unhide HN2, unhide HB2⟩⟩
                      case measure => simp [intOf]
                    · have hlti : ¬ (k : Int) < (n : Int) := by omega
                      have hN2 : NA wr nb base e D (halfF x2 0) t3 v3 U3 g3 D r3 R3 ∧ Below base w1 wr := by
                        rcases hor with ⟨hk0, hwz⟩ | ⟨h1, h2⟩
                        · have hn0 : n = 0 := by omega
                          rw [hwz, half_none (by omega) (unhide HS0 hn0)]
                          exact ⟨unhide HN1, Below.refl _ _⟩
                        · exact h2
                      have hBz : Below base w wr := ((unhide HB3).trans (unhide HB1)).trans hN2.2
                      have HC := hide (n_got hN2.1.drew 1 (by omega))
                      have HM := hide (fun got (hg : (gotOf (D (1 - 1)) (halfF x2 0 1).m).take (t3 1) ++ got = gotOf (D (1 - 1)) (halfF x2 0 1).m) => (unhide HPH).room (by omega) hg (by omega))
                      obtain ⟨⟨c0, c1, c2, c3, c4, c5, c6, c7⟩, hfz⟩ := eight_cells hN2.1.cells.1
                      have hnb := hN2.1.cells.2.1
                      have HBZ := hide hBz
                      clear hN2 hBz hfz hor hlt hk HN1 HB1 HS0 HS1 HCO
                      go_upto_region 31 with fail
                      go_region_law ((first
                        | (refine step_call_law (by rfl) 17 _ _ (by rfl) (ptrE (e 1)) (by rfl) ent_got (unhide HC) ?_; rintro ev w4 ⟨sl, got, rfl, hsrc, htk, hN4, hB4⟩; refine ⟨sl, rfl, ?_⟩; obtain ⟨⟨d0, d1, d2, d3, d4, d5, d6, d7⟩, dfz⟩ := eight_cells hN4.cells.1; have HS := hide hsrc; have HT := hide htk; have HN4 := hide hN4; have HB4 := hide hB4; have hnb1 := hN4.cells.2.1; clear hsrc htk hN4 hB4 dfz)
                        | (refine step_append_win w4 (by rfl) _ _ _ (by rfl) base 9 i0 (.string ⟨#[]⟩) 16 Tryd.underlying25 (unhide HI) (unhide Z0) (unhide Z1) (unhide Z2) rfl (r3 1) (cellsT (R3 1)) (by rfl) ((unhide HN4).winR (by omega)) sl (cellsT got) (by rfl) (unhide HS) (cellsT_ones _) (unhide HM got (unhide HT)).1 (unhide HM got (unhide HT)).2 (unhide HN4).cells.2.2.1 ?_; intro v5 w5 hw5 hg5 hat5; obtain ⟨ao5, n5, cp5, rfl⟩ := win_slice hw5; have HG := hide ((unhide HN4).setR (by omega) hg5 hw5 hat5); obtain ⟨⟨m0, m1, m2, m3, m4, m5, m6, m7⟩, mfz⟩ := eight_cells ((unhide HN4).grewR (by omega) hg5).1; have hnb2 := ((unhide HN4).grewR (by omega) hg5).2; have mf := mfz 7; clear mfz hw5 hg5 hat5)))
                      all_goals
                        go_wp2_with fail
                        refine ⟨?_, ?measure⟩
                        (iterate 70 (try apply Exists.intro))
                        first | refine ⟨?rel, rfl⟩ | refine ⟨?rel, rfl, rfl⟩ | refine ⟨?rel, rfl, rfl, rfl⟩ | refine ⟨?rel, rfl, rfl, rfl, rfl⟩
                        case rel =>
                          refine ⟨1, _, _, _, _, _, _, _, by omega, by go_num, (unhide HG).1, (unhide HBZ).drew.trans ((unhide HB4).trans (unhide HG).2), (unhide HPH).got (by omega) (unhide HT), rfl, fun p hp h2 => ?_⟩
                          have : p = 1 := by omega
                          subst this
                          exact upd_same _ _ _
                        case measure => simp [intOf]
                · have hx3 : (halfF x2 0) = x3 := hxx.symm
                  subst hx3
                  have htab := (unhide HTB).below hB3 hN3.cells.2.2.2.2
                  have N1 := hide (n_take3 hN3 htab 1 (by omega) hP3.sz)
                  obtain ⟨⟨c0, c1, c2, c3, c4, c5, c6, c7⟩, hfz⟩ := eight_cells hN3.cells.1
                  obtain ⟨hPh, hcond⟩ := hP3.half (i := 1) (by omega)
                  have HPH := hide hPh; have HCO := hide hcond; have HP3 := hide hP3; have HB3 := hide hB3; have HEX := hide hex3
                  clear hPh hcond hP3 hB3 hex3 hN3 hfz htab hxx hj3
                  go_wp2_with fail
                  refine (unhide N1).mono ?_
                  rintro ev w1 ⟨fa, n, rfl, hn1, hs0, hs1, hN1, hB1⟩
                  have HN1 := hide hN1; have HB1 := hide hB1; have HS0 := hide hs0; have HS1 := hide hs1
                  clear hN1 hB1 hs0 hs1 N1 c0 c1 c2 c3 c4 c5 c6 c7
                  have hni : (n : Int) ≤ 1 := by omega
                  go_wp2_with fail
                  go_loopw [92] (fun kv wz => Inv6 nb base e D (halfF (halfF x2 0) 1) t3 v3 U3 g3 r3 R3 w1 n kv wz) (fun kv _ => n - (intOf kv).toNat)
                  case atStart => exact ⟨0, Nat.zero_le _, rfl, .inl ⟨rfl, rfl⟩⟩
                  case round =>
                    obtain ⟨k, hk, rfl, hor⟩ := hrel
                    by_cases hlt : k < n
                    · have hk0 : k = 0 := by omega
                      have hn : n = 1 := by omega
                      subst hk0 hn
                      rcases hor with ⟨_, hwz⟩ | ⟨h1, _⟩
                      case inr => omega
                      subst hwz
                      obtain ⟨q, b, hsent, rfl, hbl, hcell⟩ := unhide HS1 rfl
                      have hcc := unhide HCO q _ hsent
                      have htab := (unhide HTB).below ((unhide HB3).trans (unhide HB1)) (unhide HN1).cells.2.2.2.2
                      have N2 := hide (n_hear (unhide HN1) htab 0 (by omega) (unhide HP3).sz (unhide HP3).ln q _ _ rfl hcc.1 hcc.2.1 hcc.2.2)
                      have HSE := hide hsent
                      obtain ⟨⟨c0, c1, c2, c3, c4, c5, c6, c7⟩, hfz⟩ := eight_cells (unhide HN1).cells.1
                      clear hcc htab hfz hsent hlt hk
                      go_wp2_with fail
                      refine (unhide N2).mono ?_
                      rintro ev w2 ⟨rfl, hN2, hB2⟩
                      have HN2 := hide hN2; have HB2 := hide hB2
                      clear hN2 hB2 N2
                      go_wp2_with fail
                      refine ⟨?_, ?measure⟩
                      (iterate 70 (try apply Exists.intro))
                      first | refine ⟨?rel, rfl⟩ | refine ⟨?rel, rfl, rfl⟩ | refine ⟨?rel, rfl, rfl, rfl⟩ | refine ⟨?rel, rfl, rfl, rfl, rfl⟩
                      case rel => exact ⟨1, by omega, by go_num, .inr ⟨rfl, by rw [half_one (by omega) (unhide HSE)]; exact unhide HN2, unhide HB2⟩⟩
                      case measure => simp [intOf]
                    · have hlti : ¬ (k : Int) < (n : Int) := by omega
                      have hN2 : NA wr nb base e D (halfF (halfF x2 0) 1) t3 v3 U3 g3 D r3 R3 ∧ Below base w1 wr := by
                        rcases hor with ⟨hk0, hwz⟩ | ⟨h1, h2⟩
                        · have hn0 : n = 0 := by omega
                          rw [hwz, half_none (by omega) (unhide HS0 hn0)]
                          exact ⟨unhide HN1, Below.refl _ _⟩
                        · exact h2
                      have hBz : Below base w wr := ((unhide HB3).trans (unhide HB1)).trans hN2.2
                      have HC := hide (n_got hN2.1.drew 0 (by omega))
                      have HM := hide (fun got (hg : (gotOf (D (1 - 0)) (halfF (halfF x2 0) 1 0).m).take (t3 0) ++ got = gotOf (D (1 - 0)) (halfF (halfF x2 0) 1 0).m) => (unhide HPH).room (by omega) hg (by omega))
                      obtain ⟨⟨c0, c1, c2, c3, c4, c5, c6, c7⟩, hfz⟩ := eight_cells hN2.1.cells.1
                      have hnb := hN2.1.cells.2.1
                      have HBZ := hide hBz
                      clear hN2 hBz hfz hor hlt hk HN1 HB1 HS0 HS1 HCO
                      go_upto_region 31 with fail
                      go_region_law ((first
                        | (refine step_call_law (by rfl) 17 _ _ (by rfl) (ptrE (e 0)) (by rfl) ent_got (unhide HC) ?_; rintro ev w4 ⟨sl, got, rfl, hsrc, htk, hN4, hB4⟩; refine ⟨sl, rfl, ?_⟩; obtain ⟨⟨d0, d1, d2, d3, d4, d5, d6, d7⟩, dfz⟩ := eight_cells hN4.cells.1; have HS := hide hsrc; have HT := hide htk; have HN4 := hide hN4; have HB4 := hide hB4; have hnb1 := hN4.cells.2.1; clear hsrc htk hN4 hB4 dfz)
                        | (refine step_append_win w4 (by rfl) _ _ _ (by rfl) base 9 i0 (.string ⟨#[]⟩) 16 Tryd.underlying25 (unhide HI) (unhide Z0) (unhide Z1) (unhide Z2) rfl (r3 0) (cellsT (R3 0)) (by rfl) ((unhide HN4).winR (by omega)) sl (cellsT got) (by rfl) (unhide HS) (cellsT_ones _) (unhide HM got (unhide HT)).1 (unhide HM got (unhide HT)).2 (unhide HN4).cells.2.2.1 ?_; intro v5 w5 hw5 hg5 hat5; obtain ⟨ao5, n5, cp5, rfl⟩ := win_slice hw5; have HG := hide ((unhide HN4).setR (by omega) hg5 hw5 hat5); obtain ⟨⟨m0, m1, m2, m3, m4, m5, m6, m7⟩, mfz⟩ := eight_cells ((unhide HN4).grewR (by omega) hg5).1; have hnb2 := ((unhide HN4).grewR (by omega) hg5).2; have mf := mfz 6; clear mfz hw5 hg5 hat5)))
                      all_goals
                        go_wp2_with fail
                        refine ⟨?_, ?measure⟩
                        (iterate 70 (try apply Exists.intro))
                        first | refine ⟨?rel, rfl⟩ | refine ⟨?rel, rfl, rfl⟩ | refine ⟨?rel, rfl, rfl, rfl⟩ | refine ⟨?rel, rfl, rfl, rfl, rfl⟩
                        case rel =>
                          refine ⟨2, _, _, _, _, _, _, _, by omega, by go_num, (unhide HG).1, (unhide HBZ).drew.trans ((unhide HB4).trans (unhide HG).2), (unhide HPH).got (by omega) (unhide HT), rfl, fun p hp h2 => ?_⟩
                          rcases (show p = 0 ∨ p = 1 by omega) with rfl | rfl
                          · exact upd_same _ _ _
                          · rw [upd_other _ _ (by omega), half_m _ (by omega)]
                            exact unhide HEX 1 (by omega) (by omega)
                        case measure => simp [intOf]
                · have hx3 : x3 = halfF (halfF x2 0) 1 := hxx
                  have N1 := hide (n_tick hN3 0 (by omega) (hP3.two 0 (by omega)).px)
                  obtain ⟨⟨c0, c1, c2, c3, c4, c5, c6, c7⟩, hfz⟩ := eight_cells hN3.cells.1
                  have hP4 := hP3.tick (i := 0) (by omega)
                  have hP5 := hP4.tick (i := 1) (by omega)
                  have hp1 := (hP4.two 1 (by omega)).px
                  have HB3 := hide hB3; have HP5 := hide hP5; have HEX := hide hex3; have HX3 := hide hx3; have HP1 := hide hp1
                  clear hN3 hB3 hP3 hP4 hP5 hex3 hx3 hfz hxx hp1 hj3
                  go_wp2_with fail
                  refine (unhide N1).mono ?_
                  rintro ev w1 ⟨rfl, hN1, hB1⟩
                  have N2 := hide (n_tick hN1 1 (by omega) (unhide HP1))
                  clear c0 c1 c2 c3 c4 c5 c6 c7 N1
                  obtain ⟨⟨c0, c1, c2, c3, c4, c5, c6, c7⟩, hfz⟩ := eight_cells hN1.cells.1
                  have HB1 := hide hB1
                  clear hN1 hB1 hfz
                  go_wp2_with fail
                  refine (unhide N2).mono ?_
                  rintro ev w2 ⟨rfl, hN2, hB2⟩
                  have HN2 := hide hN2; have HB2 := hide hB2
                  clear hN2 hB2 N2
                  go_wp2_with fail
                  refine ⟨?_, ?measure⟩
                  (iterate 70 (try apply Exists.intro))
                  first | refine ⟨?rel, rfl⟩ | refine ⟨?rel, rfl, rfl⟩ | refine ⟨?rel, rfl, rfl, rfl⟩ | refine ⟨?rel, rfl, rfl, rfl, rfl⟩
                  case rel =>
                    refine ⟨c + 1, _, t3, R3, v3, U3, g3, r3, by omega, by go_num, unhide HN2, (unhide HB3).trans ((unhide HB1).trans (unhide HB2)), unhide HP5, ?_, fun _ q hq => ?_⟩
                    · rw [← round_pair (unhide HPA), ← unhide HX3]; rfl
                    · have := unhide HEX q hq (by omega)
                      rw [this]
                      rcases (show q = 0 ∨ q = 1 by omega) with rfl | rfl <;> rfl
                  case measure => simp [intOf]; omega
            · have hcN : c = N := by omega
              subst hcN
              obtain ⟨e1, e2, e3, e4⟩ := unhide HALL
              rw [← hpair] at e1 e2 e3 e4
              have hL0 := hP2.le 0 (by omega)
              have hL1 := hP2.le 1 (by omega)
              have hR0 : R2 0 = D 1 := all_got hP2 (i := 0) (by omega) (hex (by omega) 0 (by omega)) (e4.trans ((unhide HL).2.trans hL1.symm))
              have hR1 : R2 1 = D 0 := all_got hP2 (i := 1) (by omega) (hex (by omega) 1 (by omega)) (e3.trans ((unhide HL).1.trans hL0.symm))
              have hdr : ∀ p, Below wr.heap.size wr (wr.drewN p) := fun p => ⟨rfl, rfl, rfl, Nat.le_refl _, fun _ _ => rfl⟩
              have NR := hide (fun p => show Calls Tryd.prog 22 #[ptrE nb] (wr.drewN p) fun e w' => e = .returned (.bool true) ∧ ∃ m, w' = (wr.drewN p).drewN m from by
                obtain ⟨F, who, h1⟩ := hN2.below (hdr p)
                have k0 := hP2.ln 0 (by omega)
                have k1 := hP2.ln 1 (by omega)
                exact right_any h1 (hP2.right (i := 0) (by omega)) (hP2.right (i := 1) (by omega)) (by omega) (by omega))
              have NL0 := hide (fun p => show Calls Tryd.prog 18 #[ptrE (e 0)] (wr.drewN p) fun e w' => e = .returned (.int .i64 0) ∧ ∃ m, w' = (wr.drewN p).drewN m from
                (n_left (hN2.below (hdr p)) 0 (by omega) (e1.trans ((unhide HL).1.trans hL0.symm))).mono fun _ _ h => ⟨h.1, 0, h.2⟩)
              have NL1 := hide (fun p => show Calls Tryd.prog 18 #[ptrE (e 1)] (wr.drewN p) fun e w' => e = .returned (.int .i64 0) ∧ ∃ m, w' = (wr.drewN p).drewN m from
                (n_left (hN2.below (hdr p)) 1 (by omega) (e2.trans ((unhide HL).2.trans hL1.symm))).mono fun _ _ h => ⟨h.1, 0, h.2⟩)
              obtain ⟨ga0, gc0, hg0, hgl0, sg0⟩ := (hN2.winG (i := 0) (by omega)).srow
              obtain ⟨ga1, gc1, hg1, hgl1, sg1⟩ := (hN2.winG (i := 1) (by omega)).srow
              obtain ⟨ra0, rc0, hr0, hrl0, sr0⟩ := (hN2.winR (i := 0) (by omega)).srow
              obtain ⟨ra1, rc1, hr1, hrl1, sr1⟩ := (hN2.winR (i := 1) (by omega)).srow
              rw [hR0] at hr0
              rw [hR1] at hr1
              have hblk := hN2.cells.1
              rw [hg0, hg1, hr0, hr1] at hblk
              obtain ⟨⟨c0, c1, c2, c3, c4, c5, c6, c7⟩, hfz⟩ := eight_cells hblk
              have hlti : ¬ (c : Int) < (c : Int) := by omega
              have HB2 := hide hB2
              clear hblk hfz hg0 hg1 hr0 hr1 sg0 sg1 sr0 sr1 hgl0 hgl1 hrl0 hrl1 hR0 hR1 hN2 hB2 hP2 hpair hex hc hlt e1 e2 e3 e4 hL0 hL1 HALL HL hdr
              generalize (D 0).length = n0 at *
              generalize (D 1).length = n1 at *
              go_wp2_with fail
              go_quiet ((first
                | (go_at_call 22; exact Calls.quiet_of (unhide NR _))
                | (go_at_call 18; first | exact Calls.quiet_of (unhide NL0 _) | exact Calls.quiet_of (unhide NL1 _))))
              go_wp2
              go_ret
              rw [← unhide HBS]
              exact ⟨ret_bool (by simp), ⟨(unhide HB2).os, (unhide HB2).tape, (unhide HB2).output, (unhide HB2).size, (unhide HB2).block⟩⟩
end Go.Proofs.YthchicolifkpiaaDoor
