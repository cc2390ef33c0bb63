/- CardWhole: the walk of the law, where orders are done. (Made by drafts/genCdW3.py.) -/
import Derived.Test.YtajkbkljonejnaaGreatDoorM46
namespace Go.Proofs.YtajkbkljonejnaaGreatDoor
open Go.RowKit
set_option linter.unusedVariables false
set_option linter.unusedSimpArgs false
set_option maxRecDepth 100000
theorem cd_lt {w : World} {B cb bb mb : Nat} {v : Value} {c : Cd} (h : CdAt w B cb bb mb v c) : ∀ x, cdF cb bb mb v x → x < w.heap.size := by
  rintro x (e | e | e | e)
  · rw [e]; exact h.lt
  · rw [e]; exact h.kto.lt
  · rw [e]; exact h.kto.mem.lt
  · exact (h.kto.mem.row.lt _ e).2
theorem cd_farB {w : World} {B L cb bb mb : Nat} {v : Value} {c : Cd} (h : CdAt w B cb bb mb v c) (hL : L ≤ B) (hm : L ≤ mb) (hc : L ≤ cb) (hb : L ≤ bb) : ∀ x, cdF cb bb mb v x → L ≤ x := by
  rintro x (e | e | e | e)
  · rw [e]; exact hc
  · rw [e]; exact hb
  · rw [e]; exact hm
  · exact Nat.le_trans hL (h.kto.mem.row.lt _ e).1
theorem mem_farB {w : World} {B L mb : Nat} {v : Value} {M : Mm} (h : MemAt w B mb v M) (hL : L ≤ B) (hm : L ≤ mb) : ∀ x, memF mb v x → L ≤ x := by
  rintro x (e | e)
  · rw [e]; exact hm
  · exact Nat.le_trans hL (h.row.lt x e).1
theorem and_three (x : Int) : ∃ m : Nat, m ≤ 3 ∧ bits .and .i64 x 3 = (m : Int) := by
  have hlt : (BitVec.ofInt 64 x &&& BitVec.ofInt 64 3).toNat ≤ 3 := by
    rw [BitVec.toNat_and]; exact Nat.le_trans Nat.and_le_right (by decide)
  refine ⟨(BitVec.ofInt 64 x &&& BitVec.ofInt 64 3).toNat, hlt, ?_⟩
  simp only [bits]
  exact wraps_i64 _ (by omega) (Int.lt_of_lt_of_le (Int.ofNat_lt.2 (Nat.lt_succ_of_le hlt)) (by decide))
theorem ent_tellW (args : Array Value) (w : World) : (callFunc 9 args).run Tryz.prog w = .ok (.enter 9 args) w := by kernel_rfl
set_option maxHeartbeats 16000000 in
theorem walkW_done (id pin key : ByteArray) (pu on ru tr ve : Int) (sp sq : ByteArray) (fs : List (Int × Int)) (ao : Option Addr) (cap : Nat) (power again : Int) (l : List XOrder) (ra : Option Addr) (rc : Nat) (w : World) (hi : id.size ≤ maxLen) (hp : pin.size ≤ maxLen) (hr : FRow w ao fs) (hn : FNums fs) (hfl : (fs.length : Int) ≤ 9000000000000) (hpw : -9223372036854775808 ≤ power ∧ power ≤ 9223372036854775807) (hro : RowOrder w ra l) (hE : planCE id pin key pu on ru tr ve sp sq fs = 0) (hoe : ordersE key 1 l = 0) : Calls Tryz.prog 3 #[.agg #[.string id, .string pin, .string key, .int .i64 pu, .int .i64 on, .int .i64 ru, .int .i64 tr, .int .i64 ve, .string sp, .string sq, .slice ao fs.length cap], .int .i64 power, .slice ra l.length rc, .int .i64 again] w fun e w' => e = .returned (.bool true) ∧ Below w.heap.size w w' := by
  obtain ⟨W1, hW1⟩ : ∃ W1, W1 = w.alloc (.cells #[.string id, .string pin, .string key, .int .i64 pu, .int .i64 on, .int .i64 ru, .int .i64 tr, .int .i64 ve, .string sp, .string sq, .slice ao fs.length cap] 26) := ⟨_, rfl⟩
  have hb1 : Below w.heap.size w W1 := by rw [hW1]; exact (Below.refl _ _).alloc (Nat.le_refl _) _
  have hX : W1.heap[w.heap.size]? = some (.cells #[.string id, .string pin, .string key, .int .i64 pu, .int .i64 on, .int .i64 ru, .int .i64 tr, .int .i64 ve, .string sp, .string sq, .slice ao fs.length cap] 26) := by rw [hW1]; exact heap_alloc_new _ _
  obtain ⟨g0, hg0⟩ : ∃ g0, g0 = w.heap.size := ⟨_, rfl⟩; rw [← hg0] at hX
  have hF : ∀ W : World, Below W1.heap.size W1 W → W.cell? ⟨g0, 0, none⟩ = some (.string id) ∧ W.cell? ⟨g0, 1, none⟩ = some (.string pin) ∧ W.cell? ⟨g0, 2, none⟩ = some (.string key) ∧ W.cell? ⟨g0, 3, none⟩ = some (.int .i64 pu) ∧ W.cell? ⟨g0, 4, none⟩ = some (.int .i64 on) ∧ W.cell? ⟨g0, 5, none⟩ = some (.int .i64 ru) ∧ W.cell? ⟨g0, 6, none⟩ = some (.int .i64 tr) ∧ W.cell? ⟨g0, 7, none⟩ = some (.int .i64 ve) ∧ W.cell? ⟨g0, 8, none⟩ = some (.string sp) ∧ W.cell? ⟨g0, 9, none⟩ = some (.string sq) ∧ W.cell? ⟨g0, 10, none⟩ = some (.slice ao fs.length cap) := fun W hb => by
    have hW := (hb.block _ (block_ltR hX)).trans hX
    refine ⟨?_, ?_, ?_, ?_, ?_, ?_, ?_, ?_, ?_, ?_, ?_⟩ <;> simp [World.cell?, hW]
  have NM : Hid (Calls Tryz.prog 4 #[.int .i64 32, .int .i64 power] W1 fun r w' => (∃ v, r = .returned (.pointer (some ⟨W1.heap.size, 0, none⟩)) ∧ MemAt w' W1.heap.size W1.heap.size v ⟨List.replicate 32 zeroCk, power, false⟩) ∧ Below W1.heap.size W1 w') := hide (newMemory_any 32 power hpw W1); have HR : Hid (∀ W, Below W1.heap.size W1 W → FRow W ao fs) := hide (fun W hb => (hr.below hb1).below hb); have NP : Hid (∀ W, Below W1.heap.size W1 W → Calls Tryz.prog 6 #[.agg #[.string id, .string pin, .string key, .int .i64 pu, .int .i64 on, .int .i64 ru, .int .i64 tr, .int .i64 ve, .string sp, .string sq, .slice ao fs.length cap]] W fun e w' => e = .returned (.int .i64 (planCE id pin key pu on ru tr ve sp sq fs)) ∧ Below W.heap.size W w') := hide (fun W hb => rplanC_any id pin key pu on ru tr ve sp sq fs ao cap W hi hp (unhide HR W hb) hn hfl); obtain ⟨hK0, ht⟩ := planCE_ok hE
  have NO : Hid (∀ W v, Below W1.heap.size W1 W → MemAt W W1.heap.size W1.heap.size v ⟨List.replicate 32 zeroCk, power, false⟩ → Calls Tryz.prog 5 #[.agg #[.string id, .string pin, .string key, .int .i64 pu, .int .i64 on, .int .i64 ru, .int .i64 tr, .int .i64 ve, .string sp, .string sq, .slice ao fs.length cap], .iface 28 (.pointer (some ⟨W1.heap.size, 0, none⟩))] W fun e w' => ∃ cb bb, e = .returned (.tuple #[.pointer (some ⟨cb, 0, none⟩), .int .i64 0]) ∧ CdAt w' W1.heap.size cb bb W1.heap.size v (openC (firstK pin key pu on ru tr ve) ⟨List.replicate 32 zeroCk, power, false⟩ (roomR fs) sp sq) ∧ Below W1.heap.size W1 w' ∧ W1.heap.size ≤ cb ∧ W1.heap.size ≤ bb) := hide (fun W v hb hM => by
    refine (open_yes id pin key pu on ru tr ve sp sq fs ao cap hM rfl (by simp) (fun c hc => by rw [(List.mem_replicate.1 hc).2]; rfl) (fun e => by have := (new_bare power).headOf; rw [this] at e; cases e) hi hp (unhide HR W hb) hn hfl hE).mono ?_; rintro r w' ⟨cb, bb, q1, q2, q3, q4, q5⟩
    exact ⟨cb, bb, q1, q2, chg_step hb hb.size q3 (mem_far hM (Nat.le_refl _)), Nat.le_trans hb.size q4, Nat.le_trans hb.size q5⟩)
  rw [hE] at NP; have NR : Hid (∀ W, Below W1.heap.size W1 W → Calls Tryz.prog 8 #[.string key, .int .i64 1, .slice ra l.length rc] W fun e w' => e = .returned (.tuple #[.string (ordersV key 1 l), .int .i64 (ordersE key 1 l)]) ∧ Below W.heap.size W w') := hide (fun W hb => orders_any key 1 l ra rc W ((hro.below hb1).below hb)); obtain ⟨s, hs⟩ : ∃ s, s = ordersV key 1 l := ⟨_, rfl⟩; rw [hoe, ← hs] at NR; have hO := own_orders hoe; rw [← hs] at hO
  have hsm : s.size ≤ maxLen := by have := hO.sz; unfold maxLen; omega
  obtain ⟨c1, hc1⟩ : ∃ c1, c1 = openC (firstK pin key pu on ru tr ve) ⟨List.replicate 32 zeroCk, power, false⟩ (roomR fs) sp sq := ⟨_, rfl⟩; obtain ⟨hk1, hkk1⟩ := openC_ok (K0 := (firstK pin key pu on ru tr ve)) (room := roomR fs) (p := sp) (q := sq) hK0 ht (.inr ⟨new_bare power, rfl⟩); rw [← hc1] at NO hk1 hkk1
  have ho1 : c1.M.off = false := by rw [hc1]; rfl
  obtain ⟨N, off, e2, K', c2, c3, c4, e4, hN, hWh, hcase⟩ := whole_of (room := roomR fs) (sp := sp) (sq := sq) (key := key) hK0 ht rfl rfl hoe hs hk1 hkk1 ho1 (by rw [hc1]; rfl); obtain ⟨n1, n2, n3, n4, n5⟩ := fold_keeps tr l { (firstK pin key pu on ru tr ve) with orders := 1 }; have n6 := fold_orders tr l { (firstK pin key pu on ru tr ve) with orders := 1 }; have hN' : l.foldl (orderedK tr) { (firstK pin key pu on ru tr ve) with orders := 1 } = N := hN.symm; rw [hN'] at n1 n2 n3 n4 n5 n6; replace n1 : N.count = 0 := n1; replace n2 : N.last = 0 := n2; replace n3 : N.spent = 0 := n3; replace n4 : N.run = 0 := n4; replace n5 : N.owing = false := n5; replace n6 : N.orders = 1 := n6
  have hvN : valT N = .agg #[.int .i64 0, .int .i64 0, .int .i64 0, .int .i64 0, .int .i64 N.left, .int .i64 1, .bool N.blocked, .bool false, .int .i64 N.purse, .int .i64 N.one, .int .i64 N.runs, .int .i64 N.version] := by unfold valT; rw [n1, n2, n3, n4, n5, n6]
  have NT1 : Hid (∀ W cb bb mb v, CdAt W W1.heap.size cb bb mb v c1 → Calls Tryz.prog 9 #[.pointer (some ⟨cb, 0, none⟩)] W fun e w' => e = .returned (.agg #[.int .i64 0, .int .i64 0, .int .i64 0, .int .i64 0, .int .i64 tr, .int .i64 0, .bool false, .bool false, .int .i64 pu, .int .i64 on, .int .i64 ru, .int .i64 ve]) ∧ Below W.heap.size W w') := hide (fun W cb bb mb v h => by
    have := tell_on h ho1; rw [hkk1] at this
    exact this)
  have ND1 : Hid (∀ W cb bb mb v, CdAt W W1.heap.size cb bb mb v c1 → Calls Tryz.prog 10 #[.pointer (some ⟨cb, 0, none⟩), .string s] W fun e w' => e = .returned (.int .i64 e2) ∧ CdAt w' W1.heap.size cb bb mb v c2 ∧ Chg (cdF cb bb mb v) W w') := hide (fun W cb bb mb v h => by
    have := do_any h hk1 s hsm; rw [hWh.d1] at this
    exact this)
  have NF : Hid (∀ W cb bb mb v, CdAt W W1.heap.size cb bb mb v c2 → Calls Tryz.prog 11 #[.pointer (some ⟨mb, 0, none⟩)] W fun e w' => e = .returned (.bool off) ∧ w' = W) := hide (fun W cb bb mb v h => by
    have := moff_any h.kto.mem; rw [hWh.off] at this
    exact this)
  have NA : Hid (∀ W cb bb mb v, CdAt W W1.heap.size cb bb mb v c2 → Calls Tryz.prog 12 #[.pointer (some ⟨mb, 0, none⟩), .int .i64 (-1)] W fun r w' => (∃ mb' v', r = .returned (.pointer (some ⟨mb', 0, none⟩)) ∧ MemAt w' W.heap.size mb' v' ⟨c2.M.C, -1, false⟩ ∧ W.heap.size ≤ mb') ∧ Below W.heap.size W w') := hide (fun W cb bb mb v h => after_any h.kto.mem hWh.ne (-1) (by decide))
  have NO2 : Hid (∀ W B mb v, Below W1.heap.size W1 W → MemAt W B mb v ⟨c2.M.C, -1, false⟩ → Calls Tryz.prog 5 #[.agg #[.string id, .string pin, .string key, .int .i64 pu, .int .i64 on, .int .i64 ru, .int .i64 tr, .int .i64 ve, .string sp, .string sq, .slice ao fs.length cap], .iface 28 (.pointer (some ⟨mb, 0, none⟩))] W fun e w' => ∃ cb bb, e = .returned (.tuple #[.pointer (some ⟨cb, 0, none⟩), .int .i64 0]) ∧ CdAt w' B cb bb mb v c3 ∧ Chg (memF mb v) W w' ∧ W.heap.size ≤ cb ∧ W.heap.size ≤ bb) := hide (fun W B mb v hb hM => by
    rw [hWh.c3e]
    exact open_yes id pin key pu on ru tr ve sp sq fs ao cap hM rfl hWh.len hWh.sz hWh.side hi hp (unhide HR W hb) hn hfl hE)
  have NN : Hid (∀ W, Calls Tryz.prog 13 #[.agg #[.string id, .string pin, .string key, .int .i64 pu, .int .i64 on, .int .i64 ru, .int .i64 tr, .int .i64 ve, .string sp, .string sq, .slice ao fs.length cap]] W fun e w' => e = .returned (.agg (rcL id pin key pu on ru tr ve sp sq ao fs.length cap (firstK pin key pu on ru tr ve) noPay)) ∧ Below W.heap.size W w') := hide (fun W => rnew_any id pin key pu on ru tr ve sp sq ao fs.length cap W)
  have NRD : Hid (∀ W, Calls Tryz.prog 14 #[.agg (rcL id pin key pu on ru tr ve sp sq ao fs.length cap (firstK pin key pu on ru tr ve) noPay), .string s] W fun e w' => e = .returned (.tuple #[.agg #[.string id, .string pin, .string key, .int .i64 pu, .int .i64 on, .int .i64 ru, .int .i64 tr, .int .i64 ve, .string sp, .string sq, .slice ao fs.length cap, .int .i64 0, .int .i64 0, .int .i64 0, .int .i64 0, .int .i64 N.left, .int .i64 1, .bool N.blocked, .bool false, .int .i64 N.purse, .int .i64 N.one, .int .i64 N.runs, .int .i64 N.version, .string N.pin, .string N.key, .int .i64 0, .int .i64 0, .int .i64 0, .int .i64 0, .bool false, .int .i64 0, .int .i64 0, .string ⟨#[]⟩, .string ⟨#[]⟩, .string ⟨#[]⟩], .int .i64 0]) ∧ Below W.heap.size W w') := hide (fun W => by
    have h := rdo_done id pin key pu on ru tr ve sp sq ao fs.length cap (firstK pin key pu on ru tr ve) noPay s l W hK0.key hO.sz (by rw [hO.num]; exact (show ¬ (1 : Int) ≤ 0 by decide)) (hO.right _ rfl) (by rw [hO.opens _ rfl]; exact hO.reads) (by rw [hO.num]; exact hoe) (by rw [hO.num]; exact hs.symm); rw [hO.num, hN'] at h
    have e : rcL id pin key pu on ru tr ve sp sq ao fs.length cap N noPay = #[.string id, .string pin, .string key, .int .i64 pu, .int .i64 on, .int .i64 ru, .int .i64 tr, .int .i64 ve, .string sp, .string sq, .slice ao fs.length cap, .int .i64 0, .int .i64 0, .int .i64 0, .int .i64 0, .int .i64 N.left, .int .i64 1, .bool N.blocked, .bool false, .int .i64 N.purse, .int .i64 N.one, .int .i64 N.runs, .int .i64 N.version, .string N.pin, .string N.key, .int .i64 0, .int .i64 0, .int .i64 0, .int .i64 0, .bool false, .int .i64 0, .int .i64 0, .string ⟨#[]⟩, .string ⟨#[]⟩, .string ⟨#[]⟩] := by
      unfold rcL
      rw [n1, n2, n3, n4, n5, n6]
      rfl
    rw [e] at h
    exact h)
  have hk3 := hWh.k3; have hk4 := hWh.k4
  have ho3 : c3.M.off = false := by rw [hWh.c3e]; rfl
  have NT2 : Hid (∀ W B cb bb mb v, CdAt W B cb bb mb v c3 → Calls Tryz.prog 9 #[.pointer (some ⟨cb, 0, none⟩)] W fun e w' => e = .returned (valT K') ∧ Below W.heap.size W w') := hide (fun W B cb bb mb v h => by
    have := tell_on h ho3; rw [hk3] at this
    exact this)
  have ND2 : Hid (∀ W B cb bb mb v, CdAt W B cb bb mb v c3 → Calls Tryz.prog 10 #[.pointer (some ⟨cb, 0, none⟩), .string s] W fun e w' => e = .returned (.int .i64 e4) ∧ CdAt w' B cb bb mb v c4 ∧ Chg (cdF cb bb mb v) W w') := hide (fun W B cb bb mb v h => by
    have := do_any h hWh.ok3 s hsm; rw [hWh.d3] at this
    exact this)
  have ND3 : Hid (∀ W B cb bb mb v, CdAt W B cb bb mb v c4 → Calls Tryz.prog 10 #[.pointer (some ⟨cb, 0, none⟩), .string s] W fun e w' => e = .returned (.int .i64 6) ∧ CdAt w' B cb bb mb v c4 ∧ Chg (cdF cb bb mb v) W w') := hide (fun W B cb bb mb v h => by
    have := do_any h hWh.ok4 s hsm; rw [hWh.d4] at this
    exact this)
  have NT3 : Hid (∀ W B cb bb mb v, CdAt W B cb bb mb v c4 → Calls Tryz.prog 9 #[.pointer (some ⟨cb, 0, none⟩)] W fun e w' => e = .returned (.agg #[.int .i64 0, .int .i64 0, .int .i64 0, .int .i64 0, .int .i64 N.left, .int .i64 1, .bool N.blocked, .bool false, .int .i64 N.purse, .int .i64 N.one, .int .i64 N.runs, .int .i64 N.version]) ∧ Below W.heap.size W w') := hide (fun W B cb bb mb v h => by
    have := tell_on h hWh.o4; rw [hk4, hvN] at this
    exact this)
  obtain ⟨m, hm3, hand⟩ := and_three again; have HW1 := hide hW1; have HB0 := hide hb1; have HG0 := hide hg0; have HF := hide hF; have HM3 := hide hm3; clear hW1 hb1 hX hg0 hF hi hp hr hn hfl hpw hro hE hK0 ht hoe hO hsm hs hc1 hk1 hkk1 ho1 hN hN' hWh hk3 hk4 ho3 hm3; clear n1 n2 n3 n4 n5 n6
  rcases hcase with ⟨q1, q2, q3, q4⟩ | ⟨q1, q2, q3, q4⟩
  · subst q1 q2 q4; have q3 := q3.symm; subst q3; clear hvN; have NT2 : Hid (∀ W B cb bb mb v, CdAt W B cb bb mb v c3 → Calls Tryz.prog 9 #[.pointer (some ⟨cb, 0, none⟩)] W fun e w' => e = .returned (.agg #[.int .i64 0, .int .i64 0, .int .i64 0, .int .i64 0, .int .i64 tr, .int .i64 0, .bool false, .bool false, .int .i64 pu, .int .i64 on, .int .i64 ru, .int .i64 ve]) ∧ Below W.heap.size W w') := NT2
    go_enter Tryz.func3, Tryz.ntmps3
    go_upto_region 1 with fail
    rw [← unhide HW1, ← unhide HG0]
    go_wp2_with fail
    refine (unhide NM).mono ?_; rintro r y1 ⟨⟨v, rfl, hM⟩, hb⟩; have HB1 := hide hb; have HM := hide hM; clear hb hM NM; obtain ⟨a0, a1, a2, a3, a4, a5, a6, a7, a8, a9, a10⟩ := unhide HF y1 (unhide HB1)
    go_wp2_with fail
    refine (unhide NO _ _ (unhide HB1) (unhide HM)).mono ?_; rintro r y2 ⟨cb, bb, rfl, hC, hb, hcb, hbb⟩; have HB2 := hide hb; have HC := hide hC; have HCB := hide hcb; have HBB := hide hbb; clear hb hC hcb hbb a0 a1 a2 a3 a4 a5 a6 a7 a8 a9 a10 HB1 HM NO; obtain ⟨a0, a1, a2, a3, a4, a5, a6, a7, a8, a9, a10⟩ := unhide HF y2 (unhide HB2)
    go_wp2_with fail
    refine (unhide NP _ (unhide HB2)).mono ?_; rintro r y3 ⟨rfl, hb⟩; have HB3 := hide ((unhide HB2).trans (hb.mono (unhide HB2).size)); have HC3 := hide ((unhide HC).below hb); clear hb a0 a1 a2 a3 a4 a5 a6 a7 a8 a9 a10 HB2 HC NP
    go_wp2_with fail
    refine (opened_yes cb W1.heap.size _).mono ?_; rintro r y4 ⟨rfl, hy⟩; have hy' := hy.symm; subst hy'; obtain ⟨a0, a1, a2, a3, a4, a5, a6, a7, a8, a9, a10⟩ := unhide HF y3 (unhide HB3)
    go_wp2_with fail
    refine (unhide NR _ (unhide HB3)).mono ?_; rintro r y5 ⟨rfl, hb⟩; have HB5 := hide ((unhide HB3).trans (hb.mono (unhide HB3).size)); have HC5 := hide ((unhide HC3).below hb); clear hb a0 a1 a2 a3 a4 a5 a6 a7 a8 a9 a10 HB3 HC3 NR
    go_wp2_with fail
    refine (unhide NT1 _ _ _ _ _ (unhide HC5)).mono ?_; rintro r y6 ⟨rfl, hb⟩; have hC6 := (unhide HC5).below hb; have hB6 := (unhide HB5).trans (hb.mono (unhide HB5).size); obtain ⟨Y6, hY6⟩ : ∃ Y6, Y6 = y6.alloc (.cells #[.int .i64 0, .int .i64 0, .int .i64 0, .int .i64 0, .int .i64 tr, .int .i64 0, .bool false, .bool false, .int .i64 pu, .int .i64 on, .int .i64 ru, .int .i64 ve] 39) := ⟨_, rfl⟩; obtain ⟨gB, hgB⟩ : ∃ gB, gB = y6.heap.size := ⟨_, rfl⟩
    have hYb : Below y6.heap.size y6 Y6 := by rw [hY6]; exact (Below.refl _ _).alloc (Nat.le_refl _) _
    have hxB : Y6.heap[gB]? = some (.cells #[.int .i64 0, .int .i64 0, .int .i64 0, .int .i64 0, .int .i64 tr, .int .i64 0, .bool false, .bool false, .int .i64 pu, .int .i64 on, .int .i64 ru, .int .i64 ve] 39) := by rw [hY6, hgB]; exact heap_alloc_new _ _
    have hfB : ¬ cdF cb bb W1.heap.size v gB := by rw [hgB]; exact hC6.far
    have HC6 := hide (hC6.below hYb); have HB6 := hide (hB6.trans (hYb.mono hB6.size)); have HXB := hide hxB; have HFB := hide hfB; have HY6 := hide hY6; have HGB := hide hgB; clear hb hC6 hB6 hYb hxB hfB hY6 hgB HB5 HC5 NT1
    go_upto_region 11 with fail
    rw [← unhide HY6, ← unhide HGB]
    go_wp2_with fail
    refine (unhide ND1 _ _ _ _ _ (unhide HC6)).mono ?_; rintro r y7 ⟨rfl, hC7, hc7⟩; have hB7 := chg_step (unhide HB6) (unhide HB6).size hc7 (cd_farB (unhide HC6) (Nat.le_refl _) (Nat.le_refl _) (unhide HCB) (unhide HBB)); have hxB7 : y7.heap[gB]? = some (.cells #[.int .i64 0, .int .i64 0, .int .i64 0, .int .i64 0, .int .i64 tr, .int .i64 0, .bool false, .bool false, .int .i64 pu, .int .i64 on, .int .i64 ru, .int .i64 ve] 39) := (hc7.block gB (block_ltR (unhide HXB)) (unhide HFB)).trans (unhide HXB); have HC7 := hide hC7; have HB7 := hide hB7; have HXB7 := hide hxB7; clear hC7 hc7 hB7 hxB7 HC6 HB6 HXB HFB HY6 ND1
    go_wp2_with fail
    refine (unhide NF _ _ _ _ _ (unhide HC7)).mono ?_; rintro r y8 ⟨rfl, hy⟩; have hy' := hy.symm; subst hy'
    go_wp2_with fail
    refine (unhide NA _ _ _ _ _ (unhide HC7)).mono ?_; rintro r y9 ⟨⟨mb, v2, rfl, hM9, hmb⟩, hb⟩; have hB9 := (unhide HB7).trans (hb.mono (unhide HB7).size); have HM9 := hide hM9; have HL9 := hide hb; have HMB := hide hmb; have HB9 := hide hB9; clear hM9 hmb hb hB9 NA NF HC7; obtain ⟨a0, a1, a2, a3, a4, a5, a6, a7, a8, a9, a10⟩ := unhide HF y9 (unhide HB9)
    go_wp2_with fail
    refine (unhide NO2 _ _ _ _ (unhide HB9) (unhide HM9)).mono ?_; rintro r y10 ⟨cc, bc, rfl, hC10, hc10, hcc, hbc⟩; have hL10 : Below y7.heap.size y7 y10 := chg_step (unhide HL9) (unhide HL9).size hc10 (mem_farB (unhide HM9) (Nat.le_refl _) (unhide HMB)); have HC10 := hide hC10; have HL10 := hide hL10; have HCC := hide (Nat.le_trans (unhide HL9).size hcc); have HBC := hide (Nat.le_trans (unhide HL9).size hbc); clear hC10 hc10 hcc hbc hL10 a0 a1 a2 a3 a4 a5 a6 a7 a8 a9 a10 HM9 HL9 HB9 NO2; obtain ⟨a0, a1, a2, a3, a4, a5, a6, a7, a8, a9, a10⟩ := unhide HF y10 ((unhide HB7).trans ((unhide HL10).mono (unhide HB7).size))
    go_wp2_with fail
    refine (unhide NN _).mono ?_; rintro r y11 ⟨rfl, hb⟩; have HL11 := hide ((unhide HL10).trans (hb.mono (unhide HL10).size)); have HT11 := hide hb; clear hb a0 a1 a2 a3 a4 a5 a6 a7 a8 a9 a10 NN
    go_wp2_with fail
    refine (unhide NRD _).mono ?_; rintro r y12 ⟨rfl, hb⟩; have hT12 := (unhide HT11).trans (hb.mono (unhide HT11).size); obtain ⟨Y12, hY12⟩ : ∃ Y12, Y12 = (y12.alloc (.cells #[.string ⟨#[]⟩, .string ⟨#[]⟩, .string ⟨#[]⟩, .int .i64 0, .int .i64 0, .int .i64 0, .int .i64 0, .int .i64 0, .string ⟨#[]⟩, .string ⟨#[]⟩, .slice none 0 0, .int .i64 0, .int .i64 0, .int .i64 0, .int .i64 0, .int .i64 0, .int .i64 0, .bool false, .bool false, .int .i64 0, .int .i64 0, .int .i64 0, .int .i64 0, .string ⟨#[]⟩, .string ⟨#[]⟩, .int .i64 0, .int .i64 0, .int .i64 0, .int .i64 0, .bool false, .int .i64 0, .int .i64 0, .string ⟨#[]⟩, .string ⟨#[]⟩, .string ⟨#[]⟩] 47)).setRow y12.heap.size #[.string id, .string pin, .string key, .int .i64 pu, .int .i64 on, .int .i64 ru, .int .i64 tr, .int .i64 ve, .string sp, .string sq, .slice ao fs.length cap, .int .i64 0, .int .i64 0, .int .i64 0, .int .i64 0, .int .i64 N.left, .int .i64 1, .bool N.blocked, .bool false, .int .i64 N.purse, .int .i64 N.one, .int .i64 N.runs, .int .i64 N.version, .string N.pin, .string N.key, .int .i64 0, .int .i64 0, .int .i64 0, .int .i64 0, .bool false, .int .i64 0, .int .i64 0, .string ⟨#[]⟩, .string ⟨#[]⟩, .string ⟨#[]⟩] := ⟨_, rfl⟩; obtain ⟨gW, hgW⟩ : ∃ gW, gW = y12.heap.size := ⟨_, rfl⟩
    have hYb : Below y12.heap.size y12 Y12 := by rw [hY12]; exact setRow_belowC ((Below.refl _ _).alloc (Nat.le_refl _) _) (Nat.le_refl _)
    have hxW : Y12.heap[gW]? = some (.cells #[.string id, .string pin, .string key, .int .i64 pu, .int .i64 on, .int .i64 ru, .int .i64 tr, .int .i64 ve, .string sp, .string sq, .slice ao fs.length cap, .int .i64 0, .int .i64 0, .int .i64 0, .int .i64 0, .int .i64 N.left, .int .i64 1, .bool N.blocked, .bool false, .int .i64 N.purse, .int .i64 N.one, .int .i64 N.runs, .int .i64 N.version, .string N.pin, .string N.key, .int .i64 0, .int .i64 0, .int .i64 0, .int .i64 0, .bool false, .int .i64 0, .int .i64 0, .string ⟨#[]⟩, .string ⟨#[]⟩, .string ⟨#[]⟩] 47) := by rw [hY12, hgW]; exact setRow_heap _ _ _ _ _ _ (heap_alloc_new _ _)
    have hgW10 : y10.heap.size ≤ gW := by rw [hgW]; exact hT12.size
    have HT12 := hide (hT12.trans (hYb.mono hT12.size)); have HXW := hide hxW; have HGW := hide hgW; have HY12 := hide hY12; have HGW10 := hide hgW10; clear hb hT12 hYb hxW hgW hY12 hgW10 HT11 HL11 NRD
    go_upto_region 19 with (refine wpList_store_row rfl _ _ _ rfl y12.heap.size #[.string id, .string pin, .string key, .int .i64 pu, .int .i64 on, .int .i64 ru, .int .i64 tr, .int .i64 ve, .string sp, .string sq, .slice ao fs.length cap, .int .i64 0, .int .i64 0, .int .i64 0, .int .i64 0, .int .i64 N.left, .int .i64 1, .bool N.blocked, .bool false, .int .i64 N.purse, .int .i64 N.one, .int .i64 N.runs, .int .i64 N.version, .string N.pin, .string N.key, .int .i64 0, .int .i64 0, .int .i64 0, .int .i64 0, .bool false, .int .i64 0, .int .i64 0, .string ⟨#[]⟩, .string ⟨#[]⟩, .string ⟨#[]⟩] rfl rfl _ _ (heap_alloc_new _ _) infoRC rfl (by simp [Value.oneCell']) ?_)
    rw [← unhide HY12, ← unhide HGW]
    go_wp2_with fail
    refine (unhide NT2 _ _ _ _ _ _ ((unhide HC10).below (unhide HT12))).mono ?_; rintro r y13 ⟨rfl, hb⟩; have hT13 := (unhide HT12).trans (hb.mono (unhide HT12).size); obtain ⟨Y13, hY13⟩ : ∃ Y13, Y13 = y13.alloc (.cells #[.int .i64 0, .int .i64 0, .int .i64 0, .int .i64 0, .int .i64 tr, .int .i64 0, .bool false, .bool false, .int .i64 pu, .int .i64 on, .int .i64 ru, .int .i64 ve] 39) := ⟨_, rfl⟩; obtain ⟨gI, hgI⟩ : ∃ gI, gI = y13.heap.size := ⟨_, rfl⟩
    have hYb : Below y13.heap.size y13 Y13 := by rw [hY13]; exact (Below.refl _ _).alloc (Nat.le_refl _) _
    have hxI : Y13.heap[gI]? = some (.cells #[.int .i64 0, .int .i64 0, .int .i64 0, .int .i64 0, .int .i64 tr, .int .i64 0, .bool false, .bool false, .int .i64 pu, .int .i64 on, .int .i64 ru, .int .i64 ve] 39) := by rw [hY13, hgI]; exact heap_alloc_new _ _
    have hxW13 : Y13.heap[gW]? = some (.cells #[.string id, .string pin, .string key, .int .i64 pu, .int .i64 on, .int .i64 ru, .int .i64 tr, .int .i64 ve, .string sp, .string sq, .slice ao fs.length cap, .int .i64 0, .int .i64 0, .int .i64 0, .int .i64 0, .int .i64 N.left, .int .i64 1, .bool N.blocked, .bool false, .int .i64 N.purse, .int .i64 N.one, .int .i64 N.runs, .int .i64 N.version, .string N.pin, .string N.key, .int .i64 0, .int .i64 0, .int .i64 0, .int .i64 0, .bool false, .int .i64 0, .int .i64 0, .string ⟨#[]⟩, .string ⟨#[]⟩, .string ⟨#[]⟩] 47) := heap_keep (heap_keep (unhide HXW) hb) hYb; have hT13b := hT13.trans (hYb.mono hT13.size); have hL13 := (unhide HL10).trans (hT13b.mono (unhide HL10).size); have hxB13 : Y13.heap[gB]? = some (.cells #[.int .i64 0, .int .i64 0, .int .i64 0, .int .i64 0, .int .i64 tr, .int .i64 0, .bool false, .bool false, .int .i64 pu, .int .i64 on, .int .i64 ru, .int .i64 ve] 39) := heap_keep (unhide HXB7) hL13
    have hgI10 : y10.heap.size ≤ gI := by rw [hgI]; exact hT13.size
    have HC13 := hide ((unhide HC10).below hT13b); have HL13 := hide hL13; have HXI := hide hxI; have HXW13 := hide hxW13
    have hnW : ¬ cdF cc bc mb v2 gW := fun hx => Nat.lt_irrefl _ (Nat.lt_of_lt_of_le (cd_lt (unhide HC10) gW hx) (unhide HGW10))
    have hnI : ¬ cdF cc bc mb v2 gI := fun hx => Nat.lt_irrefl _ (Nat.lt_of_lt_of_le (cd_lt (unhide HC10) gI hx) hgI10)
    have HNW := hide hnW; have HNI := hide hnI; have HY13 := hide hY13; have HGI := hide hgI
    have ci0 : Y13.cell? ⟨gI, 0, none⟩ = some (.int .i64 0) := by simp [World.cell?, hxI]
    have ci1 : Y13.cell? ⟨gI, 1, none⟩ = some (.int .i64 0) := by simp [World.cell?, hxI]
    have ci2 : Y13.cell? ⟨gI, 2, none⟩ = some (.int .i64 0) := by simp [World.cell?, hxI]
    have ci3 : Y13.cell? ⟨gI, 3, none⟩ = some (.int .i64 0) := by simp [World.cell?, hxI]
    have ci4 : Y13.cell? ⟨gI, 4, none⟩ = some (.int .i64 tr) := by simp [World.cell?, hxI]
    have ci5 : Y13.cell? ⟨gI, 5, none⟩ = some (.int .i64 0) := by simp [World.cell?, hxI]
    have ci6 : Y13.cell? ⟨gI, 6, none⟩ = some (.bool false) := by simp [World.cell?, hxI]
    have ci7 : Y13.cell? ⟨gI, 7, none⟩ = some (.bool false) := by simp [World.cell?, hxI]
    have ci8 : Y13.cell? ⟨gI, 8, none⟩ = some (.int .i64 pu) := by simp [World.cell?, hxI]
    have ci9 : Y13.cell? ⟨gI, 9, none⟩ = some (.int .i64 on) := by simp [World.cell?, hxI]
    have ci10 : Y13.cell? ⟨gI, 10, none⟩ = some (.int .i64 ru) := by simp [World.cell?, hxI]
    have ci11 : Y13.cell? ⟨gI, 11, none⟩ = some (.int .i64 ve) := by simp [World.cell?, hxI]
    have cw0 : Y13.cell? ⟨gW, 11, none⟩ = some (.int .i64 0) := by simp [World.cell?, hxW13]
    have cw1 : Y13.cell? ⟨gW, 12, none⟩ = some (.int .i64 0) := by simp [World.cell?, hxW13]
    have cw2 : Y13.cell? ⟨gW, 13, none⟩ = some (.int .i64 0) := by simp [World.cell?, hxW13]
    have cw3 : Y13.cell? ⟨gW, 14, none⟩ = some (.int .i64 0) := by simp [World.cell?, hxW13]
    have cw4 : Y13.cell? ⟨gW, 15, none⟩ = some (.int .i64 N.left) := by simp [World.cell?, hxW13]
    have cw5 : Y13.cell? ⟨gW, 16, none⟩ = some (.int .i64 1) := by simp [World.cell?, hxW13]
    have cw6 : Y13.cell? ⟨gW, 17, none⟩ = some (.bool N.blocked) := by simp [World.cell?, hxW13]
    have cw7 : Y13.cell? ⟨gW, 18, none⟩ = some (.bool false) := by simp [World.cell?, hxW13]
    have cw8 : Y13.cell? ⟨gW, 19, none⟩ = some (.int .i64 N.purse) := by simp [World.cell?, hxW13]
    have cw9 : Y13.cell? ⟨gW, 20, none⟩ = some (.int .i64 N.one) := by simp [World.cell?, hxW13]
    have cw10 : Y13.cell? ⟨gW, 21, none⟩ = some (.int .i64 N.runs) := by simp [World.cell?, hxW13]
    have cw11 : Y13.cell? ⟨gW, 22, none⟩ = some (.int .i64 N.version) := by simp [World.cell?, hxW13]
    have cbb0 : Y13.cell? ⟨gB, 0, none⟩ = some (.int .i64 0) := by simp [World.cell?, hxB13]
    have cbb1 : Y13.cell? ⟨gB, 1, none⟩ = some (.int .i64 0) := by simp [World.cell?, hxB13]
    have cbb2 : Y13.cell? ⟨gB, 2, none⟩ = some (.int .i64 0) := by simp [World.cell?, hxB13]
    have cbb3 : Y13.cell? ⟨gB, 3, none⟩ = some (.int .i64 0) := by simp [World.cell?, hxB13]
    have cbb4 : Y13.cell? ⟨gB, 4, none⟩ = some (.int .i64 tr) := by simp [World.cell?, hxB13]
    have cbb5 : Y13.cell? ⟨gB, 5, none⟩ = some (.int .i64 0) := by simp [World.cell?, hxB13]
    have cbb6 : Y13.cell? ⟨gB, 6, none⟩ = some (.bool false) := by simp [World.cell?, hxB13]
    have cbb7 : Y13.cell? ⟨gB, 7, none⟩ = some (.bool false) := by simp [World.cell?, hxB13]
    have cbb8 : Y13.cell? ⟨gB, 8, none⟩ = some (.int .i64 pu) := by simp [World.cell?, hxB13]
    have cbb9 : Y13.cell? ⟨gB, 9, none⟩ = some (.int .i64 on) := by simp [World.cell?, hxB13]
    have cbb10 : Y13.cell? ⟨gB, 10, none⟩ = some (.int .i64 ru) := by simp [World.cell?, hxB13]
    have cbb11 : Y13.cell? ⟨gB, 11, none⟩ = some (.int .i64 ve) := by simp [World.cell?, hxB13]
    clear hb hT13 hYb hxI hxW13 hT13b hL13 hxB13 hgI10 hnW hnI hY13 hgI HT12 HXW HL10 HC10 HXB7 NT2
    go_upto_region 20 with fail
    rw [← unhide HY13, ← unhide HGI]
    go_wp2_with fail
    refine (unhide ND2 _ _ _ _ _ _ (unhide HC13)).mono ?_; rintro r y14 ⟨rfl, hC14, hc14⟩; have HC14 := hide hC14; have HCH := hide hc14; have hxI14 := (hc14.block gI (block_ltR (unhide HXI)) (unhide HNI)).trans (unhide HXI); have hxW14 := (hc14.block gW (block_ltR (unhide HXW13)) (unhide HNW)).trans (unhide HXW13); clear ci0 ci1 ci2 ci3 ci4 ci5 ci6 ci7 ci8 ci9 ci10 ci11 cw0 cw1 cw2 cw3 cw4 cw5 cw6 cw7 cw8 cw9 cw10 cw11 cbb0 cbb1 cbb2 cbb3 cbb4 cbb5 cbb6 cbb7 cbb8 cbb9 cbb10 cbb11
    have di0 : y14.cell? ⟨gI, 0, none⟩ = some (.int .i64 0) := by simp [World.cell?, hxI14]
    have di1 : y14.cell? ⟨gI, 1, none⟩ = some (.int .i64 0) := by simp [World.cell?, hxI14]
    have di2 : y14.cell? ⟨gI, 2, none⟩ = some (.int .i64 0) := by simp [World.cell?, hxI14]
    have di3 : y14.cell? ⟨gI, 3, none⟩ = some (.int .i64 0) := by simp [World.cell?, hxI14]
    have di4 : y14.cell? ⟨gI, 4, none⟩ = some (.int .i64 tr) := by simp [World.cell?, hxI14]
    have di5 : y14.cell? ⟨gI, 5, none⟩ = some (.int .i64 0) := by simp [World.cell?, hxI14]
    have di6 : y14.cell? ⟨gI, 6, none⟩ = some (.bool false) := by simp [World.cell?, hxI14]
    have di7 : y14.cell? ⟨gI, 7, none⟩ = some (.bool false) := by simp [World.cell?, hxI14]
    have di8 : y14.cell? ⟨gI, 8, none⟩ = some (.int .i64 pu) := by simp [World.cell?, hxI14]
    have di9 : y14.cell? ⟨gI, 9, none⟩ = some (.int .i64 on) := by simp [World.cell?, hxI14]
    have di10 : y14.cell? ⟨gI, 10, none⟩ = some (.int .i64 ru) := by simp [World.cell?, hxI14]
    have di11 : y14.cell? ⟨gI, 11, none⟩ = some (.int .i64 ve) := by simp [World.cell?, hxI14]
    have dw0 : y14.cell? ⟨gW, 11, none⟩ = some (.int .i64 0) := by simp [World.cell?, hxW14]
    have dw1 : y14.cell? ⟨gW, 12, none⟩ = some (.int .i64 0) := by simp [World.cell?, hxW14]
    have dw2 : y14.cell? ⟨gW, 13, none⟩ = some (.int .i64 0) := by simp [World.cell?, hxW14]
    have dw3 : y14.cell? ⟨gW, 14, none⟩ = some (.int .i64 0) := by simp [World.cell?, hxW14]
    have dw4 : y14.cell? ⟨gW, 15, none⟩ = some (.int .i64 N.left) := by simp [World.cell?, hxW14]
    have dw5 : y14.cell? ⟨gW, 16, none⟩ = some (.int .i64 1) := by simp [World.cell?, hxW14]
    have dw6 : y14.cell? ⟨gW, 17, none⟩ = some (.bool N.blocked) := by simp [World.cell?, hxW14]
    have dw7 : y14.cell? ⟨gW, 18, none⟩ = some (.bool false) := by simp [World.cell?, hxW14]
    have dw8 : y14.cell? ⟨gW, 19, none⟩ = some (.int .i64 N.purse) := by simp [World.cell?, hxW14]
    have dw9 : y14.cell? ⟨gW, 20, none⟩ = some (.int .i64 N.one) := by simp [World.cell?, hxW14]
    have dw10 : y14.cell? ⟨gW, 21, none⟩ = some (.int .i64 N.runs) := by simp [World.cell?, hxW14]
    have dw11 : y14.cell? ⟨gW, 22, none⟩ = some (.int .i64 N.version) := by simp [World.cell?, hxW14]
    clear hC14 hc14 hxI14 hxW14 ND2
    go_wp2
    go_loopw [136] (fun s136 wr => ∃ j : Nat, j ≤ m ∧ s136 = .int .i64 (j : Int) ∧ CdAt wr y7.heap.size cc bc mb v2 c4 ∧ Chg (cdF cc bc mb v2) Y13 wr) (fun s136 _ => m - (intOf s136).toNat)
    case atStart => exact ⟨0, Nat.zero_le _, rfl, unhide HC14, unhide HCH⟩
    case round =>
      clear di0 di1 di2 di3 di4 di5 di6 di7 di8 di9 di10 di11 dw0 dw1 dw2 dw3 dw4 dw5 dw6 dw7 dw8 dw9 dw10 dw11; obtain ⟨j, hj, rfl, hCr, hcr⟩ := hrel
      by_cases hjl : j < m
      · have hjl2 : (j : Int) < (m : Int) := Int.ofNat_lt.2 hjl; have hwj := wrapJ (n := m) hjl (Nat.le_trans (unhide HM3) (by decide)); have HCR := hide hCr; have HCHR := hide hcr; have HJ := hide hjl; clear hCr hcr hj hjl
        go_wp2_with fail
        refine (unhide ND3 _ _ _ _ _ _ (unhide HCR)).mono ?_; rintro r yy ⟨rfl, q1, q2⟩; have HQ := hide (And.intro q1 ((unhide HCHR).trans q2 (fun x hx => .inl hx))); clear q1 q2
        go_wp2
        go_roundw
        case rel => exact ⟨j + 1, unhide HJ, by rw [hwj], (unhide HQ).1, (unhide HQ).2⟩
        case measure =>
          rw [intOf_intD, intOf_intD, hwj]; exact meas_stepD (unhide HJ)
      · have hjl2 : ¬ (j : Int) < (m : Int) := fun e => hjl (Int.ofNat_lt.1 e)
        have hxWr := (hcr.block gW (block_ltR (unhide HXW13)) (unhide HNW)).trans (unhide HXW13); have hLr := chg_step (unhide HL13) (unhide HL13).size hcr (cd_farB (unhide HC13) (Nat.le_refl _) (unhide HMB) (unhide HCC) (unhide HBC)); have HLR := hide ((unhide HB0).trans (((unhide HB7).trans (hLr.mono (unhide HB7).size)).mono (unhide HB0).size)); have HXWR : Hid (∀ W, Below wr.heap.size wr W → W.heap[gW]? = some (.cells #[.string id, .string pin, .string key, .int .i64 pu, .int .i64 on, .int .i64 ru, .int .i64 tr, .int .i64 ve, .string sp, .string sq, .slice ao fs.length cap, .int .i64 0, .int .i64 0, .int .i64 0, .int .i64 0, .int .i64 N.left, .int .i64 1, .bool N.blocked, .bool false, .int .i64 N.purse, .int .i64 N.one, .int .i64 N.runs, .int .i64 N.version, .string N.pin, .string N.key, .int .i64 0, .int .i64 0, .int .i64 0, .int .i64 0, .bool false, .int .i64 0, .int .i64 0, .string ⟨#[]⟩, .string ⟨#[]⟩, .string ⟨#[]⟩] 47)) := hide (fun W hb => heap_keep hxWr hb); have HCR := hide hCr; clear hCr hcr hj hjl hxWr hLr
        go_upto_region 30 with fail
        refine wp_drawnB (by kernel_rfl) 148 (by rfl) (by kernel_rfl) (by kernel_rfl) 6 (vals [.pointer (some ⟨cc, 0, none⟩), .agg #[.int .i64 0, .int .i64 0, .int .i64 0, .int .i64 0, .int .i64 N.left, .int .i64 1, .bool N.blocked, .bool false, .int .i64 N.purse, .int .i64 N.one, .int .i64 N.runs, .int .i64 N.version], .pointer (some ⟨gW, 11, none⟩), .agg #[.int .i64 0, .int .i64 0, .int .i64 0, .int .i64 0, .int .i64 N.left, .int .i64 1, .bool N.blocked, .bool false, .int .i64 N.purse, .int .i64 N.one, .int .i64 N.runs, .int .i64 N.version], .bool true, .bool true]) (fun x => x) (Below.refl wr.heap.size wr) ?_ ?_
        · refine ⟨?_, ?_, ?_, ?_, ?_, ?_, trivial⟩
          · intro S ac wx hJ hS hw hoff; obtain ⟨_, hb⟩ := hJ.same (i := 0) (by decide) hS; have eT10 : ac.eval (.tmp 10) = .pointer (some ⟨cc, 0, none⟩) := (hoff 10 (by kernel_rfl)).trans rfl; have gT10 := evT eT10; refine Does.value (.pointer (some ⟨cc, 0, none⟩)) _ ?_ (hJ.val (i := 0) (by decide) hS hw _ rfl _ hb); clear hJ hw hoff; go_simp
          · intro S ac wx hJ hS hw hoff; obtain ⟨_, hb⟩ := hJ.same (i := 1) (by decide) hS; have eT143 : ac.eval (.tmp 143) = .pointer (some ⟨cc, 0, none⟩) := hJ.v 0 (by decide) (hw 0 (by kernel_rfl)); refine does_call1 9 (.tmp 143) _ rfl _ eT143 ent_tellW (unhide NT3 _ _ _ _ _ _ ((unhide HCR).below hb)) ?_; rintro e wy ⟨rfl, hy⟩; exact ⟨_, rfl, hJ.val (i := 1) (by decide) hS hw _ rfl _ (hb.trans (hy.mono hb.size))⟩
          · intro S ac wx hJ hS hw hoff; obtain ⟨_, hb⟩ := hJ.same (i := 2) (by decide) hS; have eT15 : ac.eval (.tmp 15) = .pointer (some ⟨gW, 0, none⟩) := (hoff 15 (by kernel_rfl)).trans rfl; have gT15 := evT eT15; refine Does.value (.pointer (some ⟨gW, 11, none⟩)) _ ?_ (hJ.val (i := 2) (by decide) hS hw _ rfl _ hb); clear hJ hw hoff; go_simp
          · intro S ac wx hJ hS hw hoff; obtain ⟨_, hb⟩ := hJ.same (i := 3) (by decide) hS; have eT145 : ac.eval (.tmp 145) = .pointer (some ⟨gW, 11, none⟩) := hJ.v 2 (by decide) (hw 2 (by kernel_rfl)); have hw1 := unhide HXWR _ hb
            have ew0 : wx.cell? ⟨gW, 11, none⟩ = some (.int .i64 0) := by simp [World.cell?, hw1]
            have ew1 : wx.cell? ⟨gW, 12, none⟩ = some (.int .i64 0) := by simp [World.cell?, hw1]
            have ew2 : wx.cell? ⟨gW, 13, none⟩ = some (.int .i64 0) := by simp [World.cell?, hw1]
            have ew3 : wx.cell? ⟨gW, 14, none⟩ = some (.int .i64 0) := by simp [World.cell?, hw1]
            have ew4 : wx.cell? ⟨gW, 15, none⟩ = some (.int .i64 N.left) := by simp [World.cell?, hw1]
            have ew5 : wx.cell? ⟨gW, 16, none⟩ = some (.int .i64 1) := by simp [World.cell?, hw1]
            have ew6 : wx.cell? ⟨gW, 17, none⟩ = some (.bool N.blocked) := by simp [World.cell?, hw1]
            have ew7 : wx.cell? ⟨gW, 18, none⟩ = some (.bool false) := by simp [World.cell?, hw1]
            have ew8 : wx.cell? ⟨gW, 19, none⟩ = some (.int .i64 N.purse) := by simp [World.cell?, hw1]
            have ew9 : wx.cell? ⟨gW, 20, none⟩ = some (.int .i64 N.one) := by simp [World.cell?, hw1]
            have ew10 : wx.cell? ⟨gW, 21, none⟩ = some (.int .i64 N.runs) := by simp [World.cell?, hw1]
            have ew11 : wx.cell? ⟨gW, 22, none⟩ = some (.int .i64 N.version) := by simp [World.cell?, hw1]
            clear hw1; have gT145 := evT eT145; refine Does.value (.agg #[.int .i64 0, .int .i64 0, .int .i64 0, .int .i64 0, .int .i64 N.left, .int .i64 1, .bool N.blocked, .bool false, .int .i64 N.purse, .int .i64 N.one, .int .i64 N.runs, .int .i64 N.version]) _ ?_ (hJ.val (i := 3) (by decide) hS hw _ rfl _ hb); clear hJ hw hoff; go_simp
          · intro S ac wx hJ hS hw hoff; obtain ⟨_, hb⟩ := hJ.same (i := 4) (by decide) hS; have eT144 : ac.eval (.tmp 144) = .agg #[.int .i64 0, .int .i64 0, .int .i64 0, .int .i64 0, .int .i64 N.left, .int .i64 1, .bool N.blocked, .bool false, .int .i64 N.purse, .int .i64 N.one, .int .i64 N.runs, .int .i64 N.version] := hJ.v 1 (by decide) (hw 1 (by kernel_rfl)); have eT146 : ac.eval (.tmp 146) = .agg #[.int .i64 0, .int .i64 0, .int .i64 0, .int .i64 0, .int .i64 N.left, .int .i64 1, .bool N.blocked, .bool false, .int .i64 N.purse, .int .i64 N.one, .int .i64 N.runs, .int .i64 N.version] := hJ.v 3 (by decide) (hw 3 (by kernel_rfl)); have gT144 := evT eT144; have gT146 := evT eT146; refine Does.value (.bool true) _ ?_ (hJ.val (i := 4) (by decide) hS hw _ rfl _ hb); clear hJ hw hoff; go_simp
          · intro S ac wx hJ hS hw hoff; obtain ⟨_, hb⟩ := hJ.same (i := 5) (by decide) hS; have eT147 : ac.eval (.tmp 147) = .bool true := hJ.v 4 (by decide) (hw 4 (by kernel_rfl)); have gT147 := evT eT147; refine Does.value (.bool true) _ ?_ (hJ.val (i := 5) (by decide) hS hw _ rfl _ hb); clear hJ hw hoff; go_simp
        · intro ac wx S hdf hsz hoff hall hJ; have hb := hJ.all; have hh143 : ac.tmps.getD 143 undef = .pointer (some ⟨cc, 0, none⟩) := hJ.v 0 (by decide) (hall 0 (by decide)); have hh144 : ac.tmps.getD 144 undef = .agg #[.int .i64 0, .int .i64 0, .int .i64 0, .int .i64 0, .int .i64 N.left, .int .i64 1, .bool N.blocked, .bool false, .int .i64 N.purse, .int .i64 N.one, .int .i64 N.runs, .int .i64 N.version] := hJ.v 1 (by decide) (hall 1 (by decide)); have hh145 : ac.tmps.getD 145 undef = .pointer (some ⟨gW, 11, none⟩) := hJ.v 2 (by decide) (hall 2 (by decide)); have hh146 : ac.tmps.getD 146 undef = .agg #[.int .i64 0, .int .i64 0, .int .i64 0, .int .i64 0, .int .i64 N.left, .int .i64 1, .bool N.blocked, .bool false, .int .i64 N.purse, .int .i64 N.one, .int .i64 N.runs, .int .i64 N.version] := hJ.v 3 (by decide) (hall 3 (by decide)); have hh147 : ac.tmps.getD 147 undef = .bool true := hJ.v 4 (by decide) (hall 4 (by decide)); have hh8 : ac.tmps.getD 8 undef = .bool true := hJ.v 5 (by decide) (hall 5 (by decide)); have hmix := mix_eq [false, false, false, false, false, false, false, false, true, false, false, false, false, false, false, false, false, false, false, false, false, false, false, false, false, false, false, false, false, false, false, false, false, false, false, false, false, false, false, false, false, false, false, false, false, false, false, false, false, false, false, false, false, false, false, false, false, false, false, false, false, false, false, false, false, false, false, false, false, false, false, false, false, false, false, false, false, false, false, false, false, false, false, false, false, false, false, false, false, false, false, false, false, false, false, false, false, false, false, false, false, false, false, false, false, false, false, false, false, false, false, false, false, false, false, false, false, false, false, false, false, false, false, false, false, false, false, false, false, false, false, false, false, false, false, false, false, false, false, false, false, false, false, true, true, true, true, true] rfl rfl hsz hdf (by kernel_rfl) hoff; clear hoff hall hsz hdf hJ
          simp only [mixL, Nat.reduceAdd, hh143, hh144, hh145, hh146, hh147, hh8] at hmix
          rw [hmix]; clear hmix hh143 hh144 hh145 hh146 hh147 hh8; have HZ := hide ((unhide HLR).trans (hb.mono (unhide HLR).size)); clear hb
          go_wp2
          go_ret
          exact ⟨rfl, unhide HZ⟩
  · subst q1 q2 q4; have q3 := q3.symm; subst q3; rw [hvN] at NT2; clear hvN
    go_enter Tryz.func3, Tryz.ntmps3
    go_upto_region 1 with fail
    rw [← unhide HW1, ← unhide HG0]
    go_wp2_with fail
    refine (unhide NM).mono ?_; rintro r y1 ⟨⟨v, rfl, hM⟩, hb⟩; have HB1 := hide hb; have HM := hide hM; clear hb hM NM; obtain ⟨a0, a1, a2, a3, a4, a5, a6, a7, a8, a9, a10⟩ := unhide HF y1 (unhide HB1)
    go_wp2_with fail
    refine (unhide NO _ _ (unhide HB1) (unhide HM)).mono ?_; rintro r y2 ⟨cb, bb, rfl, hC, hb, hcb, hbb⟩; have HB2 := hide hb; have HC := hide hC; have HCB := hide hcb; have HBB := hide hbb; clear hb hC hcb hbb a0 a1 a2 a3 a4 a5 a6 a7 a8 a9 a10 HB1 HM NO; obtain ⟨a0, a1, a2, a3, a4, a5, a6, a7, a8, a9, a10⟩ := unhide HF y2 (unhide HB2)
    go_wp2_with fail
    refine (unhide NP _ (unhide HB2)).mono ?_; rintro r y3 ⟨rfl, hb⟩; have HB3 := hide ((unhide HB2).trans (hb.mono (unhide HB2).size)); have HC3 := hide ((unhide HC).below hb); clear hb a0 a1 a2 a3 a4 a5 a6 a7 a8 a9 a10 HB2 HC NP
    go_wp2_with fail
    refine (opened_yes cb W1.heap.size _).mono ?_; rintro r y4 ⟨rfl, hy⟩; have hy' := hy.symm; subst hy'; obtain ⟨a0, a1, a2, a3, a4, a5, a6, a7, a8, a9, a10⟩ := unhide HF y3 (unhide HB3)
    go_wp2_with fail
    refine (unhide NR _ (unhide HB3)).mono ?_; rintro r y5 ⟨rfl, hb⟩; have HB5 := hide ((unhide HB3).trans (hb.mono (unhide HB3).size)); have HC5 := hide ((unhide HC3).below hb); clear hb a0 a1 a2 a3 a4 a5 a6 a7 a8 a9 a10 HB3 HC3 NR
    go_wp2_with fail
    refine (unhide NT1 _ _ _ _ _ (unhide HC5)).mono ?_; rintro r y6 ⟨rfl, hb⟩; have hC6 := (unhide HC5).below hb; have hB6 := (unhide HB5).trans (hb.mono (unhide HB5).size); obtain ⟨Y6, hY6⟩ : ∃ Y6, Y6 = y6.alloc (.cells #[.int .i64 0, .int .i64 0, .int .i64 0, .int .i64 0, .int .i64 tr, .int .i64 0, .bool false, .bool false, .int .i64 pu, .int .i64 on, .int .i64 ru, .int .i64 ve] 39) := ⟨_, rfl⟩; obtain ⟨gB, hgB⟩ : ∃ gB, gB = y6.heap.size := ⟨_, rfl⟩
    have hYb : Below y6.heap.size y6 Y6 := by rw [hY6]; exact (Below.refl _ _).alloc (Nat.le_refl _) _
    have hxB : Y6.heap[gB]? = some (.cells #[.int .i64 0, .int .i64 0, .int .i64 0, .int .i64 0, .int .i64 tr, .int .i64 0, .bool false, .bool false, .int .i64 pu, .int .i64 on, .int .i64 ru, .int .i64 ve] 39) := by rw [hY6, hgB]; exact heap_alloc_new _ _
    have hfB : ¬ cdF cb bb W1.heap.size v gB := by rw [hgB]; exact hC6.far
    have HC6 := hide (hC6.below hYb); have HB6 := hide (hB6.trans (hYb.mono hB6.size)); have HXB := hide hxB; have HFB := hide hfB; have HY6 := hide hY6; have HGB := hide hgB; clear hb hC6 hB6 hYb hxB hfB hY6 hgB HB5 HC5 NT1
    go_upto_region 11 with fail
    rw [← unhide HY6, ← unhide HGB]
    go_wp2_with fail
    refine (unhide ND1 _ _ _ _ _ (unhide HC6)).mono ?_; rintro r y7 ⟨rfl, hC7, hc7⟩; have hB7 := chg_step (unhide HB6) (unhide HB6).size hc7 (cd_farB (unhide HC6) (Nat.le_refl _) (Nat.le_refl _) (unhide HCB) (unhide HBB)); have hxB7 : y7.heap[gB]? = some (.cells #[.int .i64 0, .int .i64 0, .int .i64 0, .int .i64 0, .int .i64 tr, .int .i64 0, .bool false, .bool false, .int .i64 pu, .int .i64 on, .int .i64 ru, .int .i64 ve] 39) := (hc7.block gB (block_ltR (unhide HXB)) (unhide HFB)).trans (unhide HXB); have HC7 := hide hC7; have HB7 := hide hB7; have HXB7 := hide hxB7; clear hC7 hc7 hB7 hxB7 HC6 HB6 HXB HFB HY6 ND1
    go_wp2_with fail
    refine (unhide NA _ _ _ _ _ (unhide HC7)).mono ?_; rintro r y9 ⟨⟨mb, v2, rfl, hM9, hmb⟩, hb⟩; have hB9 := (unhide HB7).trans (hb.mono (unhide HB7).size); have HM9 := hide hM9; have HL9 := hide hb; have HMB := hide hmb; have HB9 := hide hB9; clear hM9 hmb hb hB9 NA NF HC7; obtain ⟨a0, a1, a2, a3, a4, a5, a6, a7, a8, a9, a10⟩ := unhide HF y9 (unhide HB9)
    go_wp2_with fail
    refine (unhide NO2 _ _ _ _ (unhide HB9) (unhide HM9)).mono ?_; rintro r y10 ⟨cc, bc, rfl, hC10, hc10, hcc, hbc⟩; have hL10 : Below y7.heap.size y7 y10 := chg_step (unhide HL9) (unhide HL9).size hc10 (mem_farB (unhide HM9) (Nat.le_refl _) (unhide HMB)); have HC10 := hide hC10; have HL10 := hide hL10; have HCC := hide (Nat.le_trans (unhide HL9).size hcc); have HBC := hide (Nat.le_trans (unhide HL9).size hbc); clear hC10 hc10 hcc hbc hL10 a0 a1 a2 a3 a4 a5 a6 a7 a8 a9 a10 HM9 HL9 HB9 NO2; obtain ⟨a0, a1, a2, a3, a4, a5, a6, a7, a8, a9, a10⟩ := unhide HF y10 ((unhide HB7).trans ((unhide HL10).mono (unhide HB7).size))
    go_wp2_with fail
    refine (unhide NN _).mono ?_; rintro r y11 ⟨rfl, hb⟩; have HL11 := hide ((unhide HL10).trans (hb.mono (unhide HL10).size)); have HT11 := hide hb; clear hb a0 a1 a2 a3 a4 a5 a6 a7 a8 a9 a10 NN
    go_wp2_with fail
    refine (unhide NRD _).mono ?_; rintro r y12 ⟨rfl, hb⟩; have hT12 := (unhide HT11).trans (hb.mono (unhide HT11).size); obtain ⟨Y12, hY12⟩ : ∃ Y12, Y12 = (y12.alloc (.cells #[.string ⟨#[]⟩, .string ⟨#[]⟩, .string ⟨#[]⟩, .int .i64 0, .int .i64 0, .int .i64 0, .int .i64 0, .int .i64 0, .string ⟨#[]⟩, .string ⟨#[]⟩, .slice none 0 0, .int .i64 0, .int .i64 0, .int .i64 0, .int .i64 0, .int .i64 0, .int .i64 0, .bool false, .bool false, .int .i64 0, .int .i64 0, .int .i64 0, .int .i64 0, .string ⟨#[]⟩, .string ⟨#[]⟩, .int .i64 0, .int .i64 0, .int .i64 0, .int .i64 0, .bool false, .int .i64 0, .int .i64 0, .string ⟨#[]⟩, .string ⟨#[]⟩, .string ⟨#[]⟩] 47)).setRow y12.heap.size #[.string id, .string pin, .string key, .int .i64 pu, .int .i64 on, .int .i64 ru, .int .i64 tr, .int .i64 ve, .string sp, .string sq, .slice ao fs.length cap, .int .i64 0, .int .i64 0, .int .i64 0, .int .i64 0, .int .i64 N.left, .int .i64 1, .bool N.blocked, .bool false, .int .i64 N.purse, .int .i64 N.one, .int .i64 N.runs, .int .i64 N.version, .string N.pin, .string N.key, .int .i64 0, .int .i64 0, .int .i64 0, .int .i64 0, .bool false, .int .i64 0, .int .i64 0, .string ⟨#[]⟩, .string ⟨#[]⟩, .string ⟨#[]⟩] := ⟨_, rfl⟩; obtain ⟨gW, hgW⟩ : ∃ gW, gW = y12.heap.size := ⟨_, rfl⟩
    have hYb : Below y12.heap.size y12 Y12 := by rw [hY12]; exact setRow_belowC ((Below.refl _ _).alloc (Nat.le_refl _) _) (Nat.le_refl _)
    have hxW : Y12.heap[gW]? = some (.cells #[.string id, .string pin, .string key, .int .i64 pu, .int .i64 on, .int .i64 ru, .int .i64 tr, .int .i64 ve, .string sp, .string sq, .slice ao fs.length cap, .int .i64 0, .int .i64 0, .int .i64 0, .int .i64 0, .int .i64 N.left, .int .i64 1, .bool N.blocked, .bool false, .int .i64 N.purse, .int .i64 N.one, .int .i64 N.runs, .int .i64 N.version, .string N.pin, .string N.key, .int .i64 0, .int .i64 0, .int .i64 0, .int .i64 0, .bool false, .int .i64 0, .int .i64 0, .string ⟨#[]⟩, .string ⟨#[]⟩, .string ⟨#[]⟩] 47) := by rw [hY12, hgW]; exact setRow_heap _ _ _ _ _ _ (heap_alloc_new _ _)
    have hgW10 : y10.heap.size ≤ gW := by rw [hgW]; exact hT12.size
    have HT12 := hide (hT12.trans (hYb.mono hT12.size)); have HXW := hide hxW; have HGW := hide hgW; have HY12 := hide hY12; have HGW10 := hide hgW10; clear hb hT12 hYb hxW hgW hY12 hgW10 HT11 HL11 NRD
    go_upto_region 19 with (refine wpList_store_row rfl _ _ _ rfl y12.heap.size #[.string id, .string pin, .string key, .int .i64 pu, .int .i64 on, .int .i64 ru, .int .i64 tr, .int .i64 ve, .string sp, .string sq, .slice ao fs.length cap, .int .i64 0, .int .i64 0, .int .i64 0, .int .i64 0, .int .i64 N.left, .int .i64 1, .bool N.blocked, .bool false, .int .i64 N.purse, .int .i64 N.one, .int .i64 N.runs, .int .i64 N.version, .string N.pin, .string N.key, .int .i64 0, .int .i64 0, .int .i64 0, .int .i64 0, .bool false, .int .i64 0, .int .i64 0, .string ⟨#[]⟩, .string ⟨#[]⟩, .string ⟨#[]⟩] rfl rfl _ _ (heap_alloc_new _ _) infoRC rfl (by simp [Value.oneCell']) ?_)
    rw [← unhide HY12, ← unhide HGW]
    go_wp2_with fail
    refine (unhide NT2 _ _ _ _ _ _ ((unhide HC10).below (unhide HT12))).mono ?_; rintro r y13 ⟨rfl, hb⟩; have hT13 := (unhide HT12).trans (hb.mono (unhide HT12).size); obtain ⟨Y13, hY13⟩ : ∃ Y13, Y13 = y13.alloc (.cells #[.int .i64 0, .int .i64 0, .int .i64 0, .int .i64 0, .int .i64 N.left, .int .i64 1, .bool N.blocked, .bool false, .int .i64 N.purse, .int .i64 N.one, .int .i64 N.runs, .int .i64 N.version] 39) := ⟨_, rfl⟩; obtain ⟨gI, hgI⟩ : ∃ gI, gI = y13.heap.size := ⟨_, rfl⟩
    have hYb : Below y13.heap.size y13 Y13 := by rw [hY13]; exact (Below.refl _ _).alloc (Nat.le_refl _) _
    have hxI : Y13.heap[gI]? = some (.cells #[.int .i64 0, .int .i64 0, .int .i64 0, .int .i64 0, .int .i64 N.left, .int .i64 1, .bool N.blocked, .bool false, .int .i64 N.purse, .int .i64 N.one, .int .i64 N.runs, .int .i64 N.version] 39) := by rw [hY13, hgI]; exact heap_alloc_new _ _
    have hxW13 : Y13.heap[gW]? = some (.cells #[.string id, .string pin, .string key, .int .i64 pu, .int .i64 on, .int .i64 ru, .int .i64 tr, .int .i64 ve, .string sp, .string sq, .slice ao fs.length cap, .int .i64 0, .int .i64 0, .int .i64 0, .int .i64 0, .int .i64 N.left, .int .i64 1, .bool N.blocked, .bool false, .int .i64 N.purse, .int .i64 N.one, .int .i64 N.runs, .int .i64 N.version, .string N.pin, .string N.key, .int .i64 0, .int .i64 0, .int .i64 0, .int .i64 0, .bool false, .int .i64 0, .int .i64 0, .string ⟨#[]⟩, .string ⟨#[]⟩, .string ⟨#[]⟩] 47) := heap_keep (heap_keep (unhide HXW) hb) hYb; have hT13b := hT13.trans (hYb.mono hT13.size); have hL13 := (unhide HL10).trans (hT13b.mono (unhide HL10).size); have hxB13 : Y13.heap[gB]? = some (.cells #[.int .i64 0, .int .i64 0, .int .i64 0, .int .i64 0, .int .i64 tr, .int .i64 0, .bool false, .bool false, .int .i64 pu, .int .i64 on, .int .i64 ru, .int .i64 ve] 39) := heap_keep (unhide HXB7) hL13
    have hgI10 : y10.heap.size ≤ gI := by rw [hgI]; exact hT13.size
    have HC13 := hide ((unhide HC10).below hT13b); have HL13 := hide hL13; have HXI := hide hxI; have HXW13 := hide hxW13
    have hnW : ¬ cdF cc bc mb v2 gW := fun hx => Nat.lt_irrefl _ (Nat.lt_of_lt_of_le (cd_lt (unhide HC10) gW hx) (unhide HGW10))
    have hnI : ¬ cdF cc bc mb v2 gI := fun hx => Nat.lt_irrefl _ (Nat.lt_of_lt_of_le (cd_lt (unhide HC10) gI hx) hgI10)
    have HNW := hide hnW; have HNI := hide hnI; have HY13 := hide hY13; have HGI := hide hgI
    have ci0 : Y13.cell? ⟨gI, 0, none⟩ = some (.int .i64 0) := by simp [World.cell?, hxI]
    have ci1 : Y13.cell? ⟨gI, 1, none⟩ = some (.int .i64 0) := by simp [World.cell?, hxI]
    have ci2 : Y13.cell? ⟨gI, 2, none⟩ = some (.int .i64 0) := by simp [World.cell?, hxI]
    have ci3 : Y13.cell? ⟨gI, 3, none⟩ = some (.int .i64 0) := by simp [World.cell?, hxI]
    have ci4 : Y13.cell? ⟨gI, 4, none⟩ = some (.int .i64 N.left) := by simp [World.cell?, hxI]
    have ci5 : Y13.cell? ⟨gI, 5, none⟩ = some (.int .i64 1) := by simp [World.cell?, hxI]
    have ci6 : Y13.cell? ⟨gI, 6, none⟩ = some (.bool N.blocked) := by simp [World.cell?, hxI]
    have ci7 : Y13.cell? ⟨gI, 7, none⟩ = some (.bool false) := by simp [World.cell?, hxI]
    have ci8 : Y13.cell? ⟨gI, 8, none⟩ = some (.int .i64 N.purse) := by simp [World.cell?, hxI]
    have ci9 : Y13.cell? ⟨gI, 9, none⟩ = some (.int .i64 N.one) := by simp [World.cell?, hxI]
    have ci10 : Y13.cell? ⟨gI, 10, none⟩ = some (.int .i64 N.runs) := by simp [World.cell?, hxI]
    have ci11 : Y13.cell? ⟨gI, 11, none⟩ = some (.int .i64 N.version) := by simp [World.cell?, hxI]
    have cw0 : Y13.cell? ⟨gW, 11, none⟩ = some (.int .i64 0) := by simp [World.cell?, hxW13]
    have cw1 : Y13.cell? ⟨gW, 12, none⟩ = some (.int .i64 0) := by simp [World.cell?, hxW13]
    have cw2 : Y13.cell? ⟨gW, 13, none⟩ = some (.int .i64 0) := by simp [World.cell?, hxW13]
    have cw3 : Y13.cell? ⟨gW, 14, none⟩ = some (.int .i64 0) := by simp [World.cell?, hxW13]
    have cw4 : Y13.cell? ⟨gW, 15, none⟩ = some (.int .i64 N.left) := by simp [World.cell?, hxW13]
    have cw5 : Y13.cell? ⟨gW, 16, none⟩ = some (.int .i64 1) := by simp [World.cell?, hxW13]
    have cw6 : Y13.cell? ⟨gW, 17, none⟩ = some (.bool N.blocked) := by simp [World.cell?, hxW13]
    have cw7 : Y13.cell? ⟨gW, 18, none⟩ = some (.bool false) := by simp [World.cell?, hxW13]
    have cw8 : Y13.cell? ⟨gW, 19, none⟩ = some (.int .i64 N.purse) := by simp [World.cell?, hxW13]
    have cw9 : Y13.cell? ⟨gW, 20, none⟩ = some (.int .i64 N.one) := by simp [World.cell?, hxW13]
    have cw10 : Y13.cell? ⟨gW, 21, none⟩ = some (.int .i64 N.runs) := by simp [World.cell?, hxW13]
    have cw11 : Y13.cell? ⟨gW, 22, none⟩ = some (.int .i64 N.version) := by simp [World.cell?, hxW13]
    have cbb0 : Y13.cell? ⟨gB, 0, none⟩ = some (.int .i64 0) := by simp [World.cell?, hxB13]
    have cbb1 : Y13.cell? ⟨gB, 1, none⟩ = some (.int .i64 0) := by simp [World.cell?, hxB13]
    have cbb2 : Y13.cell? ⟨gB, 2, none⟩ = some (.int .i64 0) := by simp [World.cell?, hxB13]
    have cbb3 : Y13.cell? ⟨gB, 3, none⟩ = some (.int .i64 0) := by simp [World.cell?, hxB13]
    have cbb4 : Y13.cell? ⟨gB, 4, none⟩ = some (.int .i64 tr) := by simp [World.cell?, hxB13]
    have cbb5 : Y13.cell? ⟨gB, 5, none⟩ = some (.int .i64 0) := by simp [World.cell?, hxB13]
    have cbb6 : Y13.cell? ⟨gB, 6, none⟩ = some (.bool false) := by simp [World.cell?, hxB13]
    have cbb7 : Y13.cell? ⟨gB, 7, none⟩ = some (.bool false) := by simp [World.cell?, hxB13]
    have cbb8 : Y13.cell? ⟨gB, 8, none⟩ = some (.int .i64 pu) := by simp [World.cell?, hxB13]
    have cbb9 : Y13.cell? ⟨gB, 9, none⟩ = some (.int .i64 on) := by simp [World.cell?, hxB13]
    have cbb10 : Y13.cell? ⟨gB, 10, none⟩ = some (.int .i64 ru) := by simp [World.cell?, hxB13]
    have cbb11 : Y13.cell? ⟨gB, 11, none⟩ = some (.int .i64 ve) := by simp [World.cell?, hxB13]
    clear hb hT13 hYb hxI hxW13 hT13b hL13 hxB13 hgI10 hnW hnI hY13 hgI HT12 HXW HL10 HC10 HXB7 NT2
    go_upto_region 20 with fail
    rw [← unhide HY13, ← unhide HGI]
    go_wp2_with fail
    refine (unhide ND2 _ _ _ _ _ _ (unhide HC13)).mono ?_; rintro r y14 ⟨rfl, hC14, hc14⟩; have HC14 := hide hC14; have HCH := hide hc14; have hxI14 := (hc14.block gI (block_ltR (unhide HXI)) (unhide HNI)).trans (unhide HXI); have hxW14 := (hc14.block gW (block_ltR (unhide HXW13)) (unhide HNW)).trans (unhide HXW13); clear ci0 ci1 ci2 ci3 ci4 ci5 ci6 ci7 ci8 ci9 ci10 ci11 cw0 cw1 cw2 cw3 cw4 cw5 cw6 cw7 cw8 cw9 cw10 cw11 cbb0 cbb1 cbb2 cbb3 cbb4 cbb5 cbb6 cbb7 cbb8 cbb9 cbb10 cbb11
    have di0 : y14.cell? ⟨gI, 0, none⟩ = some (.int .i64 0) := by simp [World.cell?, hxI14]
    have di1 : y14.cell? ⟨gI, 1, none⟩ = some (.int .i64 0) := by simp [World.cell?, hxI14]
    have di2 : y14.cell? ⟨gI, 2, none⟩ = some (.int .i64 0) := by simp [World.cell?, hxI14]
    have di3 : y14.cell? ⟨gI, 3, none⟩ = some (.int .i64 0) := by simp [World.cell?, hxI14]
    have di4 : y14.cell? ⟨gI, 4, none⟩ = some (.int .i64 N.left) := by simp [World.cell?, hxI14]
    have di5 : y14.cell? ⟨gI, 5, none⟩ = some (.int .i64 1) := by simp [World.cell?, hxI14]
    have di6 : y14.cell? ⟨gI, 6, none⟩ = some (.bool N.blocked) := by simp [World.cell?, hxI14]
    have di7 : y14.cell? ⟨gI, 7, none⟩ = some (.bool false) := by simp [World.cell?, hxI14]
    have di8 : y14.cell? ⟨gI, 8, none⟩ = some (.int .i64 N.purse) := by simp [World.cell?, hxI14]
    have di9 : y14.cell? ⟨gI, 9, none⟩ = some (.int .i64 N.one) := by simp [World.cell?, hxI14]
    have di10 : y14.cell? ⟨gI, 10, none⟩ = some (.int .i64 N.runs) := by simp [World.cell?, hxI14]
    have di11 : y14.cell? ⟨gI, 11, none⟩ = some (.int .i64 N.version) := by simp [World.cell?, hxI14]
    have dw0 : y14.cell? ⟨gW, 11, none⟩ = some (.int .i64 0) := by simp [World.cell?, hxW14]
    have dw1 : y14.cell? ⟨gW, 12, none⟩ = some (.int .i64 0) := by simp [World.cell?, hxW14]
    have dw2 : y14.cell? ⟨gW, 13, none⟩ = some (.int .i64 0) := by simp [World.cell?, hxW14]
    have dw3 : y14.cell? ⟨gW, 14, none⟩ = some (.int .i64 0) := by simp [World.cell?, hxW14]
    have dw4 : y14.cell? ⟨gW, 15, none⟩ = some (.int .i64 N.left) := by simp [World.cell?, hxW14]
    have dw5 : y14.cell? ⟨gW, 16, none⟩ = some (.int .i64 1) := by simp [World.cell?, hxW14]
    have dw6 : y14.cell? ⟨gW, 17, none⟩ = some (.bool N.blocked) := by simp [World.cell?, hxW14]
    have dw7 : y14.cell? ⟨gW, 18, none⟩ = some (.bool false) := by simp [World.cell?, hxW14]
    have dw8 : y14.cell? ⟨gW, 19, none⟩ = some (.int .i64 N.purse) := by simp [World.cell?, hxW14]
    have dw9 : y14.cell? ⟨gW, 20, none⟩ = some (.int .i64 N.one) := by simp [World.cell?, hxW14]
    have dw10 : y14.cell? ⟨gW, 21, none⟩ = some (.int .i64 N.runs) := by simp [World.cell?, hxW14]
    have dw11 : y14.cell? ⟨gW, 22, none⟩ = some (.int .i64 N.version) := by simp [World.cell?, hxW14]
    clear hC14 hc14 hxI14 hxW14 ND2
    go_wp2
    go_loopw [136] (fun s136 wr => ∃ j : Nat, j ≤ m ∧ s136 = .int .i64 (j : Int) ∧ CdAt wr y7.heap.size cc bc mb v2 c4 ∧ Chg (cdF cc bc mb v2) Y13 wr) (fun s136 _ => m - (intOf s136).toNat)
    case atStart => exact ⟨0, Nat.zero_le _, rfl, unhide HC14, unhide HCH⟩
    case round =>
      clear di0 di1 di2 di3 di4 di5 di6 di7 di8 di9 di10 di11 dw0 dw1 dw2 dw3 dw4 dw5 dw6 dw7 dw8 dw9 dw10 dw11; obtain ⟨j, hj, rfl, hCr, hcr⟩ := hrel
      by_cases hjl : j < m
      · have hjl2 : (j : Int) < (m : Int) := Int.ofNat_lt.2 hjl; have hwj := wrapJ (n := m) hjl (Nat.le_trans (unhide HM3) (by decide)); have HCR := hide hCr; have HCHR := hide hcr; have HJ := hide hjl; clear hCr hcr hj hjl
        go_wp2_with fail
        refine (unhide ND3 _ _ _ _ _ _ (unhide HCR)).mono ?_; rintro r yy ⟨rfl, q1, q2⟩; have HQ := hide (And.intro q1 ((unhide HCHR).trans q2 (fun x hx => .inl hx))); clear q1 q2
        go_wp2
        go_roundw
        case rel => exact ⟨j + 1, unhide HJ, by rw [hwj], (unhide HQ).1, (unhide HQ).2⟩
        case measure =>
          rw [intOf_intD, intOf_intD, hwj]; exact meas_stepD (unhide HJ)
      · have hjl2 : ¬ (j : Int) < (m : Int) := fun e => hjl (Int.ofNat_lt.1 e)
        have hxWr := (hcr.block gW (block_ltR (unhide HXW13)) (unhide HNW)).trans (unhide HXW13); have hLr := chg_step (unhide HL13) (unhide HL13).size hcr (cd_farB (unhide HC13) (Nat.le_refl _) (unhide HMB) (unhide HCC) (unhide HBC)); have HLR := hide ((unhide HB0).trans (((unhide HB7).trans (hLr.mono (unhide HB7).size)).mono (unhide HB0).size)); have HXWR : Hid (∀ W, Below wr.heap.size wr W → W.heap[gW]? = some (.cells #[.string id, .string pin, .string key, .int .i64 pu, .int .i64 on, .int .i64 ru, .int .i64 tr, .int .i64 ve, .string sp, .string sq, .slice ao fs.length cap, .int .i64 0, .int .i64 0, .int .i64 0, .int .i64 0, .int .i64 N.left, .int .i64 1, .bool N.blocked, .bool false, .int .i64 N.purse, .int .i64 N.one, .int .i64 N.runs, .int .i64 N.version, .string N.pin, .string N.key, .int .i64 0, .int .i64 0, .int .i64 0, .int .i64 0, .bool false, .int .i64 0, .int .i64 0, .string ⟨#[]⟩, .string ⟨#[]⟩, .string ⟨#[]⟩] 47)) := hide (fun W hb => heap_keep hxWr hb); have HCR := hide hCr; clear hCr hcr hj hjl hxWr hLr
        go_upto_region 30 with fail
        refine wp_drawnB (by kernel_rfl) 148 (by rfl) (by kernel_rfl) (by kernel_rfl) 6 (vals [.pointer (some ⟨cc, 0, none⟩), .agg #[.int .i64 0, .int .i64 0, .int .i64 0, .int .i64 0, .int .i64 N.left, .int .i64 1, .bool N.blocked, .bool false, .int .i64 N.purse, .int .i64 N.one, .int .i64 N.runs, .int .i64 N.version], .pointer (some ⟨gW, 11, none⟩), .agg #[.int .i64 0, .int .i64 0, .int .i64 0, .int .i64 0, .int .i64 N.left, .int .i64 1, .bool N.blocked, .bool false, .int .i64 N.purse, .int .i64 N.one, .int .i64 N.runs, .int .i64 N.version], .bool true, .bool true]) (fun x => x) (Below.refl wr.heap.size wr) ?_ ?_
        · refine ⟨?_, ?_, ?_, ?_, ?_, ?_, trivial⟩
          · intro S ac wx hJ hS hw hoff; obtain ⟨_, hb⟩ := hJ.same (i := 0) (by decide) hS; have eT10 : ac.eval (.tmp 10) = .pointer (some ⟨cc, 0, none⟩) := (hoff 10 (by kernel_rfl)).trans rfl; have gT10 := evT eT10; refine Does.value (.pointer (some ⟨cc, 0, none⟩)) _ ?_ (hJ.val (i := 0) (by decide) hS hw _ rfl _ hb); clear hJ hw hoff; go_simp
          · intro S ac wx hJ hS hw hoff; obtain ⟨_, hb⟩ := hJ.same (i := 1) (by decide) hS; have eT143 : ac.eval (.tmp 143) = .pointer (some ⟨cc, 0, none⟩) := hJ.v 0 (by decide) (hw 0 (by kernel_rfl)); refine does_call1 9 (.tmp 143) _ rfl _ eT143 ent_tellW (unhide NT3 _ _ _ _ _ _ ((unhide HCR).below hb)) ?_; rintro e wy ⟨rfl, hy⟩; exact ⟨_, rfl, hJ.val (i := 1) (by decide) hS hw _ rfl _ (hb.trans (hy.mono hb.size))⟩
          · intro S ac wx hJ hS hw hoff; obtain ⟨_, hb⟩ := hJ.same (i := 2) (by decide) hS; have eT15 : ac.eval (.tmp 15) = .pointer (some ⟨gW, 0, none⟩) := (hoff 15 (by kernel_rfl)).trans rfl; have gT15 := evT eT15; refine Does.value (.pointer (some ⟨gW, 11, none⟩)) _ ?_ (hJ.val (i := 2) (by decide) hS hw _ rfl _ hb); clear hJ hw hoff; go_simp
          · intro S ac wx hJ hS hw hoff; obtain ⟨_, hb⟩ := hJ.same (i := 3) (by decide) hS; have eT145 : ac.eval (.tmp 145) = .pointer (some ⟨gW, 11, none⟩) := hJ.v 2 (by decide) (hw 2 (by kernel_rfl)); have hw1 := unhide HXWR _ hb
            have ew0 : wx.cell? ⟨gW, 11, none⟩ = some (.int .i64 0) := by simp [World.cell?, hw1]
            have ew1 : wx.cell? ⟨gW, 12, none⟩ = some (.int .i64 0) := by simp [World.cell?, hw1]
            have ew2 : wx.cell? ⟨gW, 13, none⟩ = some (.int .i64 0) := by simp [World.cell?, hw1]
            have ew3 : wx.cell? ⟨gW, 14, none⟩ = some (.int .i64 0) := by simp [World.cell?, hw1]
            have ew4 : wx.cell? ⟨gW, 15, none⟩ = some (.int .i64 N.left) := by simp [World.cell?, hw1]
            have ew5 : wx.cell? ⟨gW, 16, none⟩ = some (.int .i64 1) := by simp [World.cell?, hw1]
            have ew6 : wx.cell? ⟨gW, 17, none⟩ = some (.bool N.blocked) := by simp [World.cell?, hw1]
            have ew7 : wx.cell? ⟨gW, 18, none⟩ = some (.bool false) := by simp [World.cell?, hw1]
            have ew8 : wx.cell? ⟨gW, 19, none⟩ = some (.int .i64 N.purse) := by simp [World.cell?, hw1]
            have ew9 : wx.cell? ⟨gW, 20, none⟩ = some (.int .i64 N.one) := by simp [World.cell?, hw1]
            have ew10 : wx.cell? ⟨gW, 21, none⟩ = some (.int .i64 N.runs) := by simp [World.cell?, hw1]
            have ew11 : wx.cell? ⟨gW, 22, none⟩ = some (.int .i64 N.version) := by simp [World.cell?, hw1]
            clear hw1; have gT145 := evT eT145; refine Does.value (.agg #[.int .i64 0, .int .i64 0, .int .i64 0, .int .i64 0, .int .i64 N.left, .int .i64 1, .bool N.blocked, .bool false, .int .i64 N.purse, .int .i64 N.one, .int .i64 N.runs, .int .i64 N.version]) _ ?_ (hJ.val (i := 3) (by decide) hS hw _ rfl _ hb); clear hJ hw hoff; go_simp
          · intro S ac wx hJ hS hw hoff; obtain ⟨_, hb⟩ := hJ.same (i := 4) (by decide) hS; have eT144 : ac.eval (.tmp 144) = .agg #[.int .i64 0, .int .i64 0, .int .i64 0, .int .i64 0, .int .i64 N.left, .int .i64 1, .bool N.blocked, .bool false, .int .i64 N.purse, .int .i64 N.one, .int .i64 N.runs, .int .i64 N.version] := hJ.v 1 (by decide) (hw 1 (by kernel_rfl)); have eT146 : ac.eval (.tmp 146) = .agg #[.int .i64 0, .int .i64 0, .int .i64 0, .int .i64 0, .int .i64 N.left, .int .i64 1, .bool N.blocked, .bool false, .int .i64 N.purse, .int .i64 N.one, .int .i64 N.runs, .int .i64 N.version] := hJ.v 3 (by decide) (hw 3 (by kernel_rfl)); have gT144 := evT eT144; have gT146 := evT eT146; refine Does.value (.bool true) _ ?_ (hJ.val (i := 4) (by decide) hS hw _ rfl _ hb); clear hJ hw hoff; go_simp
          · intro S ac wx hJ hS hw hoff; obtain ⟨_, hb⟩ := hJ.same (i := 5) (by decide) hS; have eT147 : ac.eval (.tmp 147) = .bool true := hJ.v 4 (by decide) (hw 4 (by kernel_rfl)); have gT147 := evT eT147; refine Does.value (.bool true) _ ?_ (hJ.val (i := 5) (by decide) hS hw _ rfl _ hb); clear hJ hw hoff; go_simp
        · intro ac wx S hdf hsz hoff hall hJ; have hb := hJ.all; have hh143 : ac.tmps.getD 143 undef = .pointer (some ⟨cc, 0, none⟩) := hJ.v 0 (by decide) (hall 0 (by decide)); have hh144 : ac.tmps.getD 144 undef = .agg #[.int .i64 0, .int .i64 0, .int .i64 0, .int .i64 0, .int .i64 N.left, .int .i64 1, .bool N.blocked, .bool false, .int .i64 N.purse, .int .i64 N.one, .int .i64 N.runs, .int .i64 N.version] := hJ.v 1 (by decide) (hall 1 (by decide)); have hh145 : ac.tmps.getD 145 undef = .pointer (some ⟨gW, 11, none⟩) := hJ.v 2 (by decide) (hall 2 (by decide)); have hh146 : ac.tmps.getD 146 undef = .agg #[.int .i64 0, .int .i64 0, .int .i64 0, .int .i64 0, .int .i64 N.left, .int .i64 1, .bool N.blocked, .bool false, .int .i64 N.purse, .int .i64 N.one, .int .i64 N.runs, .int .i64 N.version] := hJ.v 3 (by decide) (hall 3 (by decide)); have hh147 : ac.tmps.getD 147 undef = .bool true := hJ.v 4 (by decide) (hall 4 (by decide)); have hh8 : ac.tmps.getD 8 undef = .bool true := hJ.v 5 (by decide) (hall 5 (by decide)); have hmix := mix_eq [false, false, false, false, false, false, false, false, true, false, false, false, false, false, false, false, false, false, false, false, false, false, false, false, false, false, false, false, false, false, false, false, false, false, false, false, false, false, false, false, false, false, false, false, false, false, false, false, false, false, false, false, false, false, false, false, false, false, false, false, false, false, false, false, false, false, false, false, false, false, false, false, false, false, false, false, false, false, false, false, false, false, false, false, false, false, false, false, false, false, false, false, false, false, false, false, false, false, false, false, false, false, false, false, false, false, false, false, false, false, false, false, false, false, false, false, false, false, false, false, false, false, false, false, false, false, false, false, false, false, false, false, false, false, false, false, false, false, false, false, false, false, false, true, true, true, true, true] rfl rfl hsz hdf (by kernel_rfl) hoff; clear hoff hall hsz hdf hJ
          simp only [mixL, Nat.reduceAdd, hh143, hh144, hh145, hh146, hh147, hh8] at hmix
          rw [hmix]; clear hmix hh143 hh144 hh145 hh146 hh147 hh8; have HZ := hide ((unhide HLR).trans (hb.mono (unhide HLR).size)); clear hb
          go_wp2
          go_ret
          exact ⟨rfl, unhide HZ⟩
theorem walkW (id pin key : ByteArray) (pu on ru tr ve : Int) (sp sq : ByteArray) (fs : List (Int × Int)) (ao : Option Addr) (cap : Nat) (power again : Int) (l : List XOrder) (ra : Option Addr) (rc : Nat) (w : World) (hi : id.size ≤ maxLen) (hp : pin.size ≤ maxLen) (hr : FRow w ao fs) (hn : FNums fs) (hfl : (fs.length : Int) ≤ 9000000000000) (hpw : -9223372036854775808 ≤ power ∧ power ≤ 9223372036854775807) (hro : RowOrder w ra l) : Calls Tryz.prog 3 #[.agg #[.string id, .string pin, .string key, .int .i64 pu, .int .i64 on, .int .i64 ru, .int .i64 tr, .int .i64 ve, .string sp, .string sq, .slice ao fs.length cap], .int .i64 power, .slice ra l.length rc, .int .i64 again] w fun e w' => e = .returned (.bool true) ∧ Below w.heap.size w w' := by
  by_cases hE : planCE id pin key pu on ru tr ve sp sq fs = 0
  · by_cases hoe : ordersE key 1 l = 0
    · exact walkW_done id pin key pu on ru tr ve sp sq fs ao cap power again l ra rc w hi hp hr hn hfl hpw hro hE hoe
    · exact walkW_form id pin key pu on ru tr ve sp sq fs ao cap power again l ra rc w hi hp hr hn hfl hpw hro hE hoe
  · exact walkW_no id pin key pu on ru tr ve sp sq fs ao cap power again l ra rc w hi hp hr hn hfl hpw hro hE
end Go.Proofs.YtajkbkljonejnaaGreatDoor
