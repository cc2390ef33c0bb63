/- A card that is not opened; whether one is; what a plan that is one begins with. (Made by drafts/genCdW.py.) -/
import Derived.Test.YtajkbkljonejnaaGreatDoorM39
import Derived.Test.YtajkbkljonejnaaGreatDoorM41
import Derived.Test.YtajkbkljonejnaaGreatDoorM18
namespace Go.Proofs.YtajkbkljonejnaaGreatDoor
open Go.RowKit
set_option linter.unusedVariables false
set_option linter.unusedSimpArgs false
set_option maxRecDepth 100000
theorem open_no (id pin key : ByteArray) (pu on ru tr ve : Int) (sp sq : ByteArray) (fs : List (Int × Int)) (ao : Option Addr) (cap : Nat) {w : World} {mb : Nat}
    (hi : id.size ≤ maxLen) (hp : pin.size ≤ maxLen) (hr : FRow w ao fs) (hn : FNums fs) (hfl : (fs.length : Int) ≤ 9000000000000) (hE : planCE id pin key pu on ru tr ve sp sq fs ≠ 0) :
    Calls Tryz.prog 5 #[.agg #[.string id, .string pin, .string key, .int .i64 pu, .int .i64 on, .int .i64 ru, .int .i64 tr, .int .i64 ve, .string sp, .string sq, .slice ao fs.length cap], .iface 28 (.pointer (some ⟨mb, 0, none⟩))] w fun e w' => e = .returned (.tuple #[.pointer none, .int .i64 (planCE id pin key pu on ru tr ve sp sq fs)]) ∧ Below w.heap.size w w' := by
  obtain ⟨W1, hW1⟩ : ∃ W1, W1 = w.alloc (.cells #[.string id, .string pin, .string key, .int .i64 pu, .int .i64 on, .int .i64 ru, .int .i64 tr, .int .i64 ve, .string sp, .string sq, .slice ao fs.length cap] 26) := ⟨_, rfl⟩
  have hb1 : Below w.heap.size w W1 := by rw [hW1]; exact (Below.refl _ _).alloc (Nat.le_refl _) _
  have hX : W1.heap[w.heap.size]? = some (.cells #[.string id, .string pin, .string key, .int .i64 pu, .int .i64 on, .int .i64 ru, .int .i64 tr, .int .i64 ve, .string sp, .string sq, .slice ao fs.length cap] 26) := by rw [hW1]; exact heap_alloc_new _ _
  have N1 := hide (checkPlanC_any id pin key pu on ru tr ve sp sq fs ao cap W1 hi hp (hr.below hb1) hn hfl); generalize planCE id pin key pu on ru tr ve sp sq fs = E at *
  have hEb : (E != 0) = true := by simpa using hE
  have hEb2 : (E == 0) = false := by simpa using hE
  have a0 : W1.cell? ⟨w.heap.size, 0, none⟩ = some (.string id) := by simp [World.cell?, hX]
  have a1 : W1.cell? ⟨w.heap.size, 1, none⟩ = some (.string pin) := by simp [World.cell?, hX]
  have a2 : W1.cell? ⟨w.heap.size, 2, none⟩ = some (.string key) := by simp [World.cell?, hX]
  have a3 : W1.cell? ⟨w.heap.size, 3, none⟩ = some (.int .i64 pu) := by simp [World.cell?, hX]
  have a4 : W1.cell? ⟨w.heap.size, 4, none⟩ = some (.int .i64 on) := by simp [World.cell?, hX]
  have a5 : W1.cell? ⟨w.heap.size, 5, none⟩ = some (.int .i64 ru) := by simp [World.cell?, hX]
  have a6 : W1.cell? ⟨w.heap.size, 6, none⟩ = some (.int .i64 tr) := by simp [World.cell?, hX]
  have a7 : W1.cell? ⟨w.heap.size, 7, none⟩ = some (.int .i64 ve) := by simp [World.cell?, hX]
  have a8 : W1.cell? ⟨w.heap.size, 8, none⟩ = some (.string sp) := by simp [World.cell?, hX]
  have a9 : W1.cell? ⟨w.heap.size, 9, none⟩ = some (.string sq) := by simp [World.cell?, hX]
  have a10 : W1.cell? ⟨w.heap.size, 10, none⟩ = some (.slice ao fs.length cap) := by simp [World.cell?, hX]
  have HW1 := hide hW1; have HB1 := hide hb1; clear hW1 hb1 hX hi hp hr hn hfl
  go_enter Tryz.func5, Tryz.ntmps5
  go_upto_region 1 with fail
  rw [← unhide HW1]
  go_wp2_with fail
  refine (unhide N1).mono ?_; rintro r y1 ⟨rfl, hy1⟩; have HY := hide ((unhide HB1).trans (hy1.mono (unhide HB1).size)); clear hy1 a0 a1 a2 a3 a4 a5 a6 a7 a8 a9 a10
  go_wp2
  go_ret2
  exact ⟨rfl, unhide HY⟩
theorem opened_yes (cb mb : Nat) (w : World) : Calls Tryz.prog 7 #[.pointer (some ⟨cb, 0, none⟩), .int .i64 0, .pointer (some ⟨mb, 0, none⟩)] w fun e w' => e = .returned (.bool true) ∧ w' = w := by
  go_enter Tryz.func7, Tryz.ntmps7
  go_wp2
  go_ret
  exact ⟨rfl, rfl⟩
theorem planCE_ok {id pin key : ByteArray} {pu on ru tr ve : Int} {sp sq : ByteArray} {fs : List (Int × Int)} (h : planCE id pin key pu on ru tr ve sp sq fs = 0) : OkK (firstK pin key pu on ru tr ve) ∧ (0 ≤ tr ∧ tr ≤ 15) := by
  unfold planCE at h
  cases h1 : digitsBO id 8 19 && (digitsBO pin 4 12 && (decide (key.size = 16) && !(fieldsE fs == 1))) with
  | false => rw [h1] at h; cases h
  | true =>
  cases h2 : inT pu 0 999999999999 && (inT on 0 999999999999 && (inT ru 0 255 && (inT tr 1 15 && inT ve 0 255))) with
  | false => rw [h1, h2] at h; cases h
  | true =>
  simp only [Bool.and_eq_true, decide_eq_true_eq] at h1 h2
  obtain ⟨_, hpin, hkey, _⟩ := h1; obtain ⟨q1, q2, q3, q4, q5⟩ := h2
  have b : ∀ {n lo hi : Int}, inT n lo hi = true → lo ≤ n ∧ n ≤ hi := fun hh => by unfold inT at hh; simpa using hh
  have q4' := b q4
  have hp : digK pin := by
    unfold digitsBO at hpin
    rw [Bool.and_eq_true] at hpin; have hz := inB_trueO.1 hpin.2; exact ⟨by omega, by omega, fun c hc => digC_trueO (List.all_eq_true.1 hpin.1 c hc)⟩
  exact ⟨⟨show (0 : Int) ≤ 0 ∧ (0 : Int) ≤ 65535 by decide, show (0 : Int) ≤ 0 ∧ (0 : Int) ≤ 65535 by decide, show (0 : Int) ≤ 0 ∧ (0 : Int) ≤ 999999999999 by decide, show (0 : Int) ≤ 0 ∧ (0 : Int) ≤ 255 by decide, ⟨by show 0 ≤ tr; omega, q4'.2⟩, show (0 : Int) ≤ 0 ∧ (0 : Int) ≤ 65535 by decide, b q1, b q2, b q3, b q5, hkey, hp⟩, ⟨by omega, q4'.2⟩⟩
theorem ordered_keeps (tr : Int) (k : Ks) (o : XOrder) : (orderedK tr k o).count = k.count ∧ (orderedK tr k o).last = k.last ∧ (orderedK tr k o).spent = k.spent ∧ (orderedK tr k o).run = k.run ∧ (orderedK tr k o).owing = k.owing := by
  unfold orderedK
  repeat' split
  all_goals exact ⟨rfl, rfl, rfl, rfl, rfl⟩
theorem fold_keeps (tr : Int) : ∀ (l : List XOrder) (k : Ks), (l.foldl (orderedK tr) k).count = k.count ∧ (l.foldl (orderedK tr) k).last = k.last ∧ (l.foldl (orderedK tr) k).spent = k.spent ∧ (l.foldl (orderedK tr) k).run = k.run ∧ (l.foldl (orderedK tr) k).owing = k.owing
  | [], _ => ⟨rfl, rfl, rfl, rfl, rfl⟩
  | o :: l, k => by
    obtain ⟨h1, h2, h3, h4, h5⟩ := fold_keeps tr l (orderedK tr k o); obtain ⟨g1, g2, g3, g4, g5⟩ := ordered_keeps tr k o; exact ⟨h1.trans g1, h2.trans g2, h3.trans g3, h4.trans g4, h5.trans g5⟩
end Go.Proofs.YtajkbkljonejnaaGreatDoor
namespace Go.Proofs.YtajkbkljonejnaaGreatDoor
open Go.RowKit
set_option linter.unusedVariables false
set_option linter.unusedSimpArgs false
set_option maxRecDepth 100000
theorem openC_ok {K0 K : Ks} {M : Mm} {room : Int} {p q : ByteArray} (hK : OkK K) (ht : 0 ≤ K0.left ∧ K0.left ≤ 15) (h : HoldsK K0 M K) : CdOk K0 (openC K0 M room p q) ∧ (openC K0 M room p q).K = K := by
  have hk : openK K0 M = K := openK_holds hK h; refine ⟨⟨?_, ?_, ht⟩, hk⟩
  · show StOk K0 M _ _ (openK K0 M)
    rw [hk]; exact h.stOk
  · show OkK (openK K0 M)
    rw [hk]; exact hK
theorem keepC_new {c : Cd} {N : Ks} (e : N ≠ c.K) : keepC c N = { c with M := (wsM c.M c.sd c.H (cK N)).1, sd := (wsM c.M c.sd c.H (cK N)).2, H := cK N, K := if (wsM c.M c.sd c.H (cK N)).1.off = true then c.K else N } := by unfold keepC; rw [if_neg e]
theorem keep_off {K0 : Ks} {c : Cd} {N : Ks} (h : CdOk K0 c) (e : N ≠ c.K) (hN : OkK N) (ho : (keepC c N).M.off = true) : keepE c N = 12 ∧ HoldsK K0 (keepC c N).M c.K := by
  have hk := keepC_new e; refine ⟨by unfold keepE; rw [if_pos ho], ?_⟩; rw [hk] at ho ⊢; exact h.st.cut hN ho
theorem keep_on {K0 : Ks} {c : Cd} {N : Ks} (h : CdOk K0 c) (e : N ≠ c.K) (hN : OkK N) (ho : (keepC c N).M.off = false) : keepE c N = 0 ∧ CdOk K0 (keepC c N) ∧ (keepC c N).K = N := by
  have hk := keepC_new e; refine ⟨by unfold keepE; rw [ho]; rfl, ?_⟩; rw [hk] at ho ⊢; have ho' : (wsM c.M c.sd c.H (cK N)).1.off = false := ho; have hd := h.st.done hN ho'; refine ⟨⟨?_, ?_, h.tr⟩, ?_⟩
  · show StOk K0 _ _ _ (if (wsM c.M c.sd c.H (cK N)).1.off = true then c.K else N)
    rw [ho', if_neg (by decide)]; exact hd
  · show OkK (if (wsM c.M c.sd c.H (cK N)).1.off = true then c.K else N)
    rw [ho', if_neg (by decide)]; exact hN
  · show (if (wsM c.M c.sd c.H (cK N)).1.off = true then c.K else N) = N
    rw [ho', if_neg (by decide)]
theorem keep_never {c : Cd} {N : Ks} (e : N ≠ c.K) (hp : c.M.pw < 0) (ho : c.M.off = false) : (keepC c N).M.off = false := by
  rw [keepC_new e]; exact (wsM_never c.sd c.H (cK N) ⟨hp, ho⟩).2
theorem did_first {tr : Int} {k : Ks} {key s : ByteArray} {l : List XOrder} (hk : k.key = key) (ho : k.orders = 0) (he : ordersE key 1 l = 0) (hs : s = ordersV key 1 l) : didK tr k s = (0, l.foldl (orderedK tr) { k with orders := 1 }) := by
  have hO := own_orders he; rw [← hs] at hO; have := did_done (tr := tr) (k := k) (s := s) (l := l) hO.sz (by rw [hO.num, ho]; decide) (hO.right k hk) (by rw [hO.opens k hk]; exact hO.reads) (by rw [hO.num, hk]; exact he); rw [hO.num] at this; exact this
theorem did_again {tr : Int} {k : Ks} {key s : ByteArray} {l : List XOrder} (ho : k.orders = 1) (he : ordersE key 1 l = 0) (hs : s = ordersV key 1 l) : didK tr k s = (6, k) := by
  have hO := own_orders he; rw [← hs] at hO; exact did_twice hO.sz (by rw [hO.num, ho]; decide)
structure Whole (K0 N : Ks) (room : Int) (sp sq s : ByteArray) (c1 c2 : Cd) (off : Bool) (e2 : Int) (K' : Ks) (c3 c4 : Cd) (e4 : Int) : Prop where
  d1 : doC c1 s = (e2, c2)
  off : c2.M.off = off
  ne : c2.M.C ≠ []
  len : 32 ≤ c2.M.C.length
  sz : ∀ c ∈ c2.M.C, c.size = 16
  side : byteAt (headOf ⟨c2.M.C, -1, false⟩) 0 = 1 → sideOf ⟨c2.M.C, -1, false⟩ < 16
  c3e : c3 = openC K0 ⟨c2.M.C, -1, false⟩ room sp sq
  k3 : c3.K = K'
  ok3 : CdOk K0 c3
  d3 : doC c3 s = (e4, c4)
  ok4 : CdOk K0 c4
  k4 : c4.K = N
  o4 : c4.M.off = false
  d4 : doC c4 s = (6, c4)
theorem whole_of {K0 : Ks} {room : Int} {sp sq s key : ByteArray} {l : List XOrder} {c1 : Cd} (hK0 : OkK K0) (ht : 0 ≤ K0.left ∧ K0.left ≤ 15) (hk : K0.key = key) (h0 : K0.orders = 0) (he : ordersE key 1 l = 0) (hs : s = ordersV key 1 l) (h1 : CdOk K0 c1) (hc1 : c1.K = K0) (ho1 : c1.M.off = false) (htr : c1.tries = K0.left) :
    ∃ N off e2 K' c2 c3 c4 e4, N = l.foldl (orderedK K0.left) { K0 with orders := 1 } ∧ Whole K0 N room sp sq s c1 c2 off e2 K' c3 c4 e4 ∧ ((off = true ∧ e2 = 12 ∧ K' = K0 ∧ e4 = 0) ∨ (off = false ∧ e2 = 0 ∧ K' = N ∧ e4 = 6)) := by
  obtain ⟨N, hN⟩ : ∃ N, N = l.foldl (orderedK K0.left) { K0 with orders := 1 } := ⟨_, rfl⟩
  have hNo : N.orders = 1 := by rw [hN, fold_orders]
  have hNk : OkK N := by
    have hO := own_orders he; have hd := did_ok ht hK0 s l (by rw [hs, hO.num, h0]; decide) (by rw [hs, hO.num, hk]; exact he); rw [hs, hO.num] at hd; rw [hN]; exact hd
  have hne : N ≠ K0 := fun e => by rw [e, h0] at hNo; cases hNo
  have dd : ∀ c : Cd, c.K = K0 → c.M.off = false → c.tries = K0.left → doC c s = (keepE c N, keepC c N) := fun c q1 q2 q3 => by
    have := did_first (tr := c.tries) (k := c.K) (by rw [q1]; exact hk) (by rw [q1]; exact h0) he hs; rw [do_done q2 this, q1, q3, ← hN]
  have da : ∀ c : Cd, c.K = N → c.M.off = false → doC c s = (6, c) := fun c q1 q2 => by
    have := did_again (tr := c.tries) (k := c.K) (by rw [q1]; exact hNo) he hs; exact do_err q2 this (by decide)
  have hn1 : N ≠ c1.K := by rw [hc1]; exact hne
  cases hoff : (keepC c1 N).M.off with
  | true =>
    obtain ⟨e2, hH⟩ := keep_off h1 hn1 hNk hoff; rw [hc1] at hH; have hA := hH.again (-1) false; obtain ⟨ok3, k3⟩ := openC_ok (room := room) (p := sp) (q := sq) hK0 ht hA
    have hn3 : N ≠ (openC K0 ⟨(keepC c1 N).M.C, -1, false⟩ room sp sq).K := by rw [k3]; exact hne
    have hon := keep_never hn3 (by show (-1 : Int) < 0; decide) rfl; obtain ⟨e4, ok4, k4⟩ := keep_on ok3 hn3 hNk hon; refine ⟨N, true, 12, K0, keepC c1 N, _, keepC (openC K0 ⟨(keepC c1 N).M.C, -1, false⟩ room sp sq) N, 0, hN, ⟨by rw [dd c1 hc1 ho1 htr, e2], hoff, ?_, hH.len.1, hH.len.2, hA.side, rfl, k3, ok3, by rw [dd _ k3 rfl rfl, e4], ok4, k4, hon, da _ k4 hon⟩, .inl ⟨rfl, rfl, rfl, rfl⟩⟩; intro e; have := hH.len.1; rw [e] at this; exact absurd this (by decide)
  | false =>
    obtain ⟨e2, ok2, k2⟩ := keep_on h1 hn1 hNk hoff; have hH := ok2.st.holds; rw [k2] at hH; have hA := hH.again (-1) false; obtain ⟨ok3, k3⟩ := openC_ok (room := room) (p := sp) (q := sq) hNk ht hA; refine ⟨N, false, 0, N, keepC c1 N, _, openC K0 ⟨(keepC c1 N).M.C, -1, false⟩ room sp sq, 6, hN, ⟨by rw [dd c1 hc1 ho1 htr, e2], hoff, ?_, hH.len.1, hH.len.2, hA.side, rfl, k3, ok3, da _ k3 rfl, ok3, k3, rfl, da _ k3 rfl⟩, .inr ⟨rfl, rfl, rfl, rfl⟩⟩; intro e; have := hH.len.1; rw [e] at this; exact absurd this (by decide)
end Go.Proofs.YtajkbkljonejnaaGreatDoor
namespace Go.Proofs.YtajkbkljonejnaaGreatDoor
open Go.RowKit
set_option linter.unusedVariables false
set_option linter.unusedSimpArgs false
set_option maxRecDepth 100000
def rcL (id pin key : ByteArray) (pu on ru tr ve : Int) (sp sq : ByteArray) (ao : Option Addr) (n cap : Nat) (k : Ks) (x : Pay) : Array Value := #[.string id, .string pin, .string key, .int .i64 pu, .int .i64 on, .int .i64 ru, .int .i64 tr, .int .i64 ve, .string sp, .string sq, .slice ao n cap, .int .i64 k.count, .int .i64 k.last, .int .i64 k.spent, .int .i64 k.run, .int .i64 k.left, .int .i64 k.orders, .bool k.blocked, .bool k.owing, .int .i64 k.purse, .int .i64 k.one, .int .i64 k.runs, .int .i64 k.version, .string k.pin, .string k.key, .int .i64 x.step, .int .i64 x.deal.shop, .int .i64 x.deal.trace, .int .i64 x.deal.amount, .bool x.deal.cash, .int .i64 x.deal.day, .int .i64 x.deal.bits, .string x.deal.nonce, .string x.extra, .string x.seal']
def rcZ : Array Value := #[.string ⟨#[]⟩, .string ⟨#[]⟩, .string ⟨#[]⟩, .int .i64 0, .int .i64 0, .int .i64 0, .int .i64 0, .int .i64 0, .string ⟨#[]⟩, .string ⟨#[]⟩, .slice none 0 0, .int .i64 0, .int .i64 0, .int .i64 0, .int .i64 0, .int .i64 0, .int .i64 0, .bool false, .bool false, .int .i64 0, .int .i64 0, .int .i64 0, .int .i64 0, .string ⟨#[]⟩, .string ⟨#[]⟩, .int .i64 0, .int .i64 0, .int .i64 0, .int .i64 0, .bool false, .int .i64 0, .int .i64 0, .string ⟨#[]⟩, .string ⟨#[]⟩, .string ⟨#[]⟩]
theorem infoRC : (Tryz.prog.info? 47).map (·.size) = some 35 := by kernel_rfl
theorem setRow_belowC {B g : Nat} {w w' : World} {cs : Array Value} (h : Below B w w') (hB : B ≤ g) : Below B w (w'.setRow g cs) :=
  ⟨h.os, h.tape, h.output, by show _ ≤ (Array.modify _ _ _).size; rw [Array.size_modify]; exact h.size, fun i hi => by
    show (Array.modify _ _ _)[i]? = _
    rw [Array.getElem?_modify, if_neg (by omega)]
    exact h.block i hi⟩
theorem setRow1 {w : World} {g : Nat} {cs : Array Value} {t : TypeId} {fr : Nat × Nat} (h : w.heap[g]? = some (.cells cs t fr)) (i : Nat) (v : Value) : (w.setCell ⟨g, i, none⟩ v).heap[g]? = some (.cells (cs.setIfInBounds i v) t fr) := by
  simp [World.setCell, Array.getElem?_modify, h]
set_option maxHeartbeats 8000000 in
theorem rnew_any (id pin key : ByteArray) (pu on ru tr ve : Int) (sp sq : ByteArray) (ao : Option Addr) (n cap : Nat) (w : World) :
    Calls Tryz.prog 13 #[.agg #[.string id, .string pin, .string key, .int .i64 pu, .int .i64 on, .int .i64 ru, .int .i64 tr, .int .i64 ve, .string sp, .string sq, .slice ao n cap]] w fun e w' => e = .returned (.agg (rcL id pin key pu on ru tr ve sp sq ao n cap (firstK pin key pu on ru tr ve) noPay)) ∧ Below w.heap.size w w' := by
  obtain ⟨W2, hW2⟩ : ∃ W2, W2 = (w.alloc (.cells #[.string id, .string pin, .string key, .int .i64 pu, .int .i64 on, .int .i64 ru, .int .i64 tr, .int .i64 ve, .string sp, .string sq, .slice ao n cap] 26)).alloc (.cells rcZ 47) := ⟨_, rfl⟩
  have hs1 : (w.alloc (.cells #[.string id, .string pin, .string key, .int .i64 pu, .int .i64 on, .int .i64 ru, .int .i64 tr, .int .i64 ve, .string sp, .string sq, .slice ao n cap] 26)).heap.size = w.heap.size + 1 := by simp
  have hX1 : W2.heap[w.heap.size]? = some (.cells #[.string id, .string pin, .string key, .int .i64 pu, .int .i64 on, .int .i64 ru, .int .i64 tr, .int .i64 ve, .string sp, .string sq, .slice ao n cap] 26) := by rw [hW2, heap_alloc_oldK _ _ (by omega)]; exact heap_alloc_new _ _
  have hX2 : W2.heap[w.heap.size + 1]? = some (.cells rcZ 47) := by
    rw [hW2]; have := heap_alloc_new (w.alloc (.cells #[.string id, .string pin, .string key, .int .i64 pu, .int .i64 on, .int .i64 ru, .int .i64 tr, .int .i64 ve, .string sp, .string sq, .slice ao n cap] 26)) (.cells rcZ 47); rw [hs1] at this; exact this
  have hB2 : Below w.heap.size w W2 := by rw [hW2]; exact ((Below.refl _ _).alloc (Nat.le_refl _) _).alloc (by simp) _
  obtain ⟨g1, hg1⟩ : ∃ g1, g1 = w.heap.size := ⟨_, rfl⟩; obtain ⟨g2, hg2⟩ : ∃ g2, g2 = w.heap.size + 1 := ⟨_, rfl⟩; rw [← hg1] at hX1; rw [← hg2] at hX2
  unfold rcZ at hX2 hW2
  have l2 : w.heap.size ≤ g2 := by omega
  have a0 : W2.cell? ⟨g1, 0, none⟩ = some (.string id) := by simp [World.cell?, hX1]
  have a1 : W2.cell? ⟨g1, 1, none⟩ = some (.string pin) := by simp [World.cell?, hX1]
  have a2 : W2.cell? ⟨g1, 2, none⟩ = some (.string key) := by simp [World.cell?, hX1]
  have a3 : W2.cell? ⟨g1, 3, none⟩ = some (.int .i64 pu) := by simp [World.cell?, hX1]
  have a4 : W2.cell? ⟨g1, 4, none⟩ = some (.int .i64 on) := by simp [World.cell?, hX1]
  have a5 : W2.cell? ⟨g1, 5, none⟩ = some (.int .i64 ru) := by simp [World.cell?, hX1]
  have a6 : W2.cell? ⟨g1, 6, none⟩ = some (.int .i64 tr) := by simp [World.cell?, hX1]
  have a7 : W2.cell? ⟨g1, 7, none⟩ = some (.int .i64 ve) := by simp [World.cell?, hX1]
  have a8 : W2.cell? ⟨g1, 8, none⟩ = some (.string sp) := by simp [World.cell?, hX1]
  have a9 : W2.cell? ⟨g1, 9, none⟩ = some (.string sq) := by simp [World.cell?, hX1]
  have a10 : W2.cell? ⟨g1, 10, none⟩ = some (.slice ao n cap) := by simp [World.cell?, hX1]
  have HB2 := hide hB2; have L2 := hide l2; have HW2 := hide hW2; have H1 := hide hg1; have H2 := hide hg2; have Y2 := hide hX2; clear hs1 hX1 hX2 hB2 hW2 hg1 hg2 l2
  go_enter Tryz.func13, Tryz.ntmps13
  go_upto_region 1 with fail
  rw [← unhide HW2]; rw [← unhide H2, ← unhide H1]
  go_wp2_with (refine wpList_store_row rfl _ _ _ rfl g2 #[.string id, .string pin, .string key, .int .i64 pu, .int .i64 on, .int .i64 ru, .int .i64 tr, .int .i64 ve, .string sp, .string sq, .slice ao n cap, .int .i64 0, .int .i64 0, .int .i64 0, .int .i64 0, .int .i64 tr, .int .i64 0, .bool false, .bool false, .int .i64 pu, .int .i64 on, .int .i64 ru, .int .i64 ve, .string pin, .string key, .int .i64 0, .int .i64 0, .int .i64 0, .int .i64 0, .bool false, .int .i64 0, .int .i64 0, .string ⟨#[]⟩, .string ⟨#[]⟩, .string ⟨#[]⟩] rfl rfl _ _ (unhide Y2) infoRC rfl (by simp [Value.oneCell']) ?_)
  exact bodyPost_ret (v := .agg #[.string id, .string pin, .string key, .int .i64 pu, .int .i64 on, .int .i64 ru, .int .i64 tr, .int .i64 ve, .string sp, .string sq, .slice ao n cap, .int .i64 0, .int .i64 0, .int .i64 0, .int .i64 0, .int .i64 tr, .int .i64 0, .bool false, .bool false, .int .i64 pu, .int .i64 on, .int .i64 ru, .int .i64 ve, .string pin, .string key, .int .i64 0, .int .i64 0, .int .i64 0, .int .i64 0, .bool false, .int .i64 0, .int .i64 0, .string ⟨#[]⟩, .string ⟨#[]⟩, .string ⟨#[]⟩]) (results_cell_row rfl _ _ g2 47 #[.string id, .string pin, .string key, .int .i64 pu, .int .i64 on, .int .i64 ru, .int .i64 tr, .int .i64 ve, .string sp, .string sq, .slice ao n cap, .int .i64 0, .int .i64 0, .int .i64 0, .int .i64 0, .int .i64 tr, .int .i64 0, .bool false, .bool false, .int .i64 pu, .int .i64 on, .int .i64 ru, .int .i64 ve, .string pin, .string key, .int .i64 0, .int .i64 0, .int .i64 0, .int .i64 0, .bool false, .int .i64 0, .int .i64 0, .string ⟨#[]⟩, .string ⟨#[]⟩, .string ⟨#[]⟩] (0, 0) _ rfl (setRow_heap _ _ _ _ _ _ (unhide Y2)) Tryz.underlying47 rfl infoRC) rfl ⟨rfl, setRow_belowC (unhide HB2) (unhide L2)⟩
end Go.Proofs.YtajkbkljonejnaaGreatDoor
