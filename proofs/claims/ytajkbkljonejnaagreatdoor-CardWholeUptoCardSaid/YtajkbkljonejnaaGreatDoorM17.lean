/- A card in memory; what it keeps: (*Card).keep of the program. (Made by drafts/genCdC2.py, but for the head.) -/
import Derived.Test.YtajkbkljonejnaaGreatDoorM16
namespace Go.Proofs.YtajkbkljonejnaaGreatDoor
open Go.RowKit
set_option linter.unusedVariables false
set_option linter.unusedSimpArgs false
set_option maxRecDepth 100000
def cdL (c : Cd) (bb : Nat) : Array Value := #[.int .i64 c.K.count, .int .i64 c.K.last, .int .i64 c.K.spent, .int .i64 c.K.run, .int .i64 c.K.left, .int .i64 c.K.orders, .bool c.K.blocked, .bool c.K.owing, .int .i64 c.K.purse, .int .i64 c.K.one, .int .i64 c.K.runs, .int .i64 c.K.version, .string c.K.key, .string c.K.pin,
 .pointer (some ⟨bb, 0, none⟩), .int .i64 c.tries, .int .i64 c.room, .string c.p, .string c.q, .int .i64 c.now.step, .int .i64 c.now.deal.shop, .int .i64 c.now.deal.trace, .int .i64 c.now.deal.amount, .bool c.now.deal.cash, .int .i64 c.now.deal.day, .int .i64 c.now.deal.bits, .string c.now.deal.nonce, .string c.now.extra, .string c.now.seal']
structure CdAt (w : World) (B cb bb mb : Nat) (v : Value) (c : Cd) : Prop where
 box : w.heap[cb]? = some (.cells (cdL c bb) 70)
 kto : KtoAt w B bb mb v c.M c.H (c.sd : Int)
 cs : cb ≠ bb
 cm : cb ≠ mb
 cv : v.ownBlock ≠ some cb
def cdF (cb bb mb : Nat) (v : Value) : Nat → Prop := fun x => x = cb ∨ ktoF bb mb v x
theorem ent_cellsK (args : Array Value) (w : World) : (callFunc 84 args).run Tryz.prog w = .ok (.enter 84 args) w := by kernel_rfl
theorem ent_writeK (args : Array Value) (w : World) : (callFunc 83 args).run Tryz.prog w = .ok (.enter 83 args) w := by kernel_rfl
theorem ks_ext {a b : Ks} (h0 : a.count = b.count) (h1 : a.last = b.last) (h2 : a.spent = b.spent) (h3 : a.run = b.run) (h4 : a.left = b.left) (h5 : a.orders = b.orders) (h6 : a.blocked = b.blocked) (h7 : a.owing = b.owing) (h8 : a.purse = b.purse) (h9 : a.one = b.one) (h10 : a.runs = b.runs) (h11 : a.version = b.version) (h12 : a.key = b.key) (h13 : a.pin = b.pin) : a = b := by
 cases a; cases b; simp only [Ks.mk.injEq]; exact ⟨h0, h1, h2, h3, h4, h5, h6, h7, h8, h9, h10, h11, h12, h13⟩
section
variable {w w' : World} {B cb bb mb : Nat} {v : Value} {c : Cd}
theorem CdAt.lt (h : CdAt w B cb bb mb v c) : cb < w.heap.size := block_ltR h.box
theorem CdAt.not (h : CdAt w B cb bb mb v c) : ¬ ktoF bb mb v cb := by
 rintro (e | e | e)
 · exact h.cs e
 · exact h.cm e
 · exact h.cv e
theorem CdAt.below (h : CdAt w B cb bb mb v c) (hb : Below w.heap.size w w') : CdAt w' B cb bb mb v c := ⟨(hb.block cb h.lt).trans h.box, h.kto.below hb, h.cs, h.cm, h.cv⟩
theorem CdAt.chg {F : Nat → Prop} (h : CdAt w B cb bb mb v c) (hc : Chg F w w') (hF : ∀ x, F x → ¬ cdF cb bb mb v x) : CdAt w' B cb bb mb v c :=
 ⟨(hc.block cb h.lt (fun hf => hF cb hf (.inl rfl))).trans h.box, h.kto.chg hc (fun x hx hm => hF x hx (.inr hm)), h.cs, h.cm, h.cv⟩
theorem CdAt.far (h : CdAt w B cb bb mb v c) : ¬ cdF cb bb mb v w.heap.size := by
 rintro (e | e | e | e)
 · have := h.lt; omega
 · have := h.kto.lt; omega
 · have := h.kto.mem.lt; omega
 · have := (h.kto.mem.row.lt _ e).2; omega
theorem keep_same (h : CdAt w B cb bb mb v c) (N : Ks) (e : N = c.K) :
  Calls Tryz.prog 34 #[.pointer (some ⟨cb, 0, none⟩), valK N] w fun e w' => e = .returned (.int .i64 0) ∧ CdAt w' B cb bb mb v c ∧ Chg (cdF cb bb mb v) w w' := by
 obtain ⟨W1, hW1⟩ : ∃ W1, W1 = w.alloc (.cells (kvL N) 60) := ⟨_, rfl⟩
 have hb1 : Below w.heap.size w W1 := by rw [hW1]; exact (Below.refl _ _).alloc (Nat.le_refl _) _
 have hX : W1.heap[w.heap.size]? = some (.cells (kvL N) 60) := by rw [hW1]; exact heap_alloc_new _ _
 have h1 := h.below hb1
 have hfar := h.far
 obtain ⟨g, hg⟩ : ∃ g, g = w.heap.size := ⟨_, rfl⟩
 rw [← hg] at hX hfar
 have hbx := h1.box
 have hcN : ∀ W : World, W.heap[g]? = W1.heap[g]? → W.cell? ⟨g, 0, none⟩ = some (.int .i64 N.count) ∧ W.cell? ⟨g, 1, none⟩ = some (.int .i64 N.last) ∧ W.cell? ⟨g, 2, none⟩ = some (.int .i64 N.spent) ∧ W.cell? ⟨g, 3, none⟩ = some (.int .i64 N.run) ∧ W.cell? ⟨g, 4, none⟩ = some (.int .i64 N.left) ∧ W.cell? ⟨g, 5, none⟩ = some (.int .i64 N.orders) ∧ W.cell? ⟨g, 6, none⟩ = some (.bool N.blocked) ∧ W.cell? ⟨g, 7, none⟩ = some (.bool N.owing) ∧ W.cell? ⟨g, 8, none⟩ = some (.int .i64 N.purse) ∧ W.cell? ⟨g, 9, none⟩ = some (.int .i64 N.one) ∧ W.cell? ⟨g, 10, none⟩ = some (.int .i64 N.runs) ∧ W.cell? ⟨g, 11, none⟩ = some (.int .i64 N.version) ∧ W.cell? ⟨g, 12, none⟩ = some (.string N.key) ∧ W.cell? ⟨g, 13, none⟩ = some (.string N.pin) := fun W hW => by
  rw [hX] at hW; unfold kvL at hW
  refine ⟨?_, ?_, ?_, ?_, ?_, ?_, ?_, ?_, ?_, ?_, ?_, ?_, ?_, ?_⟩ <;> simp [World.cell?, hW]
 have hcK : ∀ W : World, W.heap[cb]? = W1.heap[cb]? → (W.cell? ⟨cb, 0, none⟩ = some (.int .i64 c.K.count) ∧ W.cell? ⟨cb, 1, none⟩ = some (.int .i64 c.K.last) ∧ W.cell? ⟨cb, 2, none⟩ = some (.int .i64 c.K.spent) ∧ W.cell? ⟨cb, 3, none⟩ = some (.int .i64 c.K.run) ∧ W.cell? ⟨cb, 4, none⟩ = some (.int .i64 c.K.left) ∧ W.cell? ⟨cb, 5, none⟩ = some (.int .i64 c.K.orders) ∧ W.cell? ⟨cb, 6, none⟩ = some (.bool c.K.blocked) ∧ W.cell? ⟨cb, 7, none⟩ = some (.bool c.K.owing) ∧ W.cell? ⟨cb, 8, none⟩ = some (.int .i64 c.K.purse) ∧ W.cell? ⟨cb, 9, none⟩ = some (.int .i64 c.K.one) ∧ W.cell? ⟨cb, 10, none⟩ = some (.int .i64 c.K.runs) ∧ W.cell? ⟨cb, 11, none⟩ = some (.int .i64 c.K.version) ∧ W.cell? ⟨cb, 12, none⟩ = some (.string c.K.key) ∧ W.cell? ⟨cb, 13, none⟩ = some (.string c.K.pin)) ∧ W.cell? ⟨cb, 14, none⟩ = some (.pointer (some ⟨bb, 0, none⟩)) := fun W hW => by
  rw [hbx] at hW; unfold cdL at hW
  refine ⟨⟨?_, ?_, ?_, ?_, ?_, ?_, ?_, ?_, ?_, ?_, ?_, ?_, ?_, ?_⟩, ?_⟩ <;> simp [World.cell?, hW]
 have hlg := block_ltR hX
 have hlc := block_ltR hbx
 have hq := e
 have HE : Hid (∀ W, Below W1.heap.size W1 W → CdAt W B cb bb mb v c ∧ Chg (cdF cb bb mb v) w W) := hide (fun W hb => ⟨h1.below hb, Chg.of_below _ (hb1.trans (hb.mono hb1.size))⟩)
 have HQ := hide hq; have HW1 := hide hW1; have HN := hide hcN; have HK := hide hcK; have HLG := hide hlg; have HLC := hide hlc; have HG := hide hg
 clear h h1 hb1 hbx hX hW1 hq hcN hcK hlg hlc hfar e hg
 go_enter Tryz.func34, Tryz.ntmps34
 unfold valK kvL
 go_upto_region 1 with fail
 have HWu := unhide HW1
 unfold kvL at HWu
 rw [← HWu]
 clear HWu
 rw [← unhide HG]
 refine wp_drawnB (by kernel_rfl) 29 (by rfl) (by kernel_rfl) (by kernel_rfl) 6 (vals [.agg #[.int .i64 N.count, .int .i64 N.last, .int .i64 N.spent, .int .i64 N.run, .int .i64 N.left, .int .i64 N.orders, .bool N.blocked, .bool N.owing, .int .i64 N.purse, .int .i64 N.one, .int .i64 N.runs, .int .i64 N.version, .string N.key, .string N.pin], .pointer (some ⟨cb, 0, none⟩), .pointer (some ⟨cb, 0, none⟩), .pointer (some ⟨cb, 0, none⟩), .agg #[.int .i64 c.K.count, .int .i64 c.K.last, .int .i64 c.K.spent, .int .i64 c.K.run, .int .i64 c.K.left, .int .i64 c.K.orders, .bool c.K.blocked, .bool c.K.owing, .int .i64 c.K.purse, .int .i64 c.K.one, .int .i64 c.K.runs, .int .i64 c.K.version, .string c.K.key, .string c.K.pin], .bool true]) (fun x => x) (Below.refl W1.heap.size W1) ?_ ?_
 · refine ⟨?_, ?_, ?_, ?_, ?_, ?_, trivial⟩
  · intro S ac wx hJ hS hw hoff
   obtain ⟨_, hb⟩ := hJ.same (i := 0) (by decide) hS
   have eT3 : ac.eval (.tmp 3) = .pointer (some ⟨g, 0, none⟩) := (hoff 3 (by kernel_rfl)).trans rfl
   obtain ⟨a0, a1, a2, a3, a4, a5, a6, a7, a8, a9, a10, a11, a12, a13⟩ := unhide HN _ (hb.block _ (unhide HLG))
   have gT3 := evT eT3
   refine Does.value (.agg #[.int .i64 N.count, .int .i64 N.last, .int .i64 N.spent, .int .i64 N.run, .int .i64 N.left, .int .i64 N.orders, .bool N.blocked, .bool N.owing, .int .i64 N.purse, .int .i64 N.one, .int .i64 N.runs, .int .i64 N.version, .string N.key, .string N.pin]) _ ?_ (hJ.val (i := 0) (by decide) hS hw _ rfl _ hb)
   clear hJ hw hoff
   go_simp
  · intro S ac wx hJ hS hw hoff
   obtain ⟨_, hb⟩ := hJ.same (i := 1) (by decide) hS
   have eT0 : ac.eval (.tmp 0) = .pointer (some ⟨cb, 0, none⟩) := (hoff 0 (by kernel_rfl)).trans rfl
   have gT0 := evT eT0
   refine Does.value (.pointer (some ⟨cb, 0, none⟩)) _ ?_ (hJ.val (i := 1) (by decide) hS hw _ rfl _ hb)
   clear hJ hw hoff
   go_simp
  · intro S ac wx hJ hS hw hoff
   obtain ⟨_, hb⟩ := hJ.same (i := 2) (by decide) hS
   have eT6 : ac.eval (.tmp 6) = .pointer (some ⟨cb, 0, none⟩) := hJ.v 1 (by decide) (hw 1 (by kernel_rfl))
   have gT6 := evT eT6
   refine Does.value (.pointer (some ⟨cb, 0, none⟩)) _ ?_ (hJ.val (i := 2) (by decide) hS hw _ rfl _ hb)
   clear hJ hw hoff
   go_simp
  · intro S ac wx hJ hS hw hoff
   obtain ⟨_, hb⟩ := hJ.same (i := 3) (by decide) hS
   have eT7 : ac.eval (.tmp 7) = .pointer (some ⟨cb, 0, none⟩) := hJ.v 2 (by decide) (hw 2 (by kernel_rfl))
   have gT7 := evT eT7
   refine Does.value (.pointer (some ⟨cb, 0, none⟩)) _ ?_ (hJ.val (i := 3) (by decide) hS hw _ rfl _ hb)
   clear hJ hw hoff
   go_simp
  · intro S ac wx hJ hS hw hoff
   obtain ⟨_, hb⟩ := hJ.same (i := 4) (by decide) hS
   have eT8 : ac.eval (.tmp 8) = .pointer (some ⟨cb, 0, none⟩) := hJ.v 3 (by decide) (hw 3 (by kernel_rfl))
   obtain ⟨⟨b0, b1, b2, b3, b4, b5, b6, b7, b8, b9, b10, b11, b12, b13⟩, _⟩ := unhide HK _ (hb.block _ (unhide HLC))
   have gT8 := evT eT8
   refine Does.value (.agg #[.int .i64 c.K.count, .int .i64 c.K.last, .int .i64 c.K.spent, .int .i64 c.K.run, .int .i64 c.K.left, .int .i64 c.K.orders, .bool c.K.blocked, .bool c.K.owing, .int .i64 c.K.purse, .int .i64 c.K.one, .int .i64 c.K.runs, .int .i64 c.K.version, .string c.K.key, .string c.K.pin]) _ ?_ (hJ.val (i := 4) (by decide) hS hw _ rfl _ hb)
   clear hJ hw hoff
   go_simp
  · intro S ac wx hJ hS hw hoff
   obtain ⟨_, hb⟩ := hJ.same (i := 5) (by decide) hS
   have eT5 : ac.eval (.tmp 5) = .agg #[.int .i64 N.count, .int .i64 N.last, .int .i64 N.spent, .int .i64 N.run, .int .i64 N.left, .int .i64 N.orders, .bool N.blocked, .bool N.owing, .int .i64 N.purse, .int .i64 N.one, .int .i64 N.runs, .int .i64 N.version, .string N.key, .string N.pin] := hJ.v 0 (by decide) (hw 0 (by kernel_rfl))
   have eT9 : ac.eval (.tmp 9) = .agg #[.int .i64 c.K.count, .int .i64 c.K.last, .int .i64 c.K.spent, .int .i64 c.K.run, .int .i64 c.K.left, .int .i64 c.K.orders, .bool c.K.blocked, .bool c.K.owing, .int .i64 c.K.purse, .int .i64 c.K.one, .int .i64 c.K.runs, .int .i64 c.K.version, .string c.K.key, .string c.K.pin] := hJ.v 4 (by decide) (hw 4 (by kernel_rfl))
   have gT5 := evT eT5
   have gT9 := evT eT9
   refine Does.value (.bool true) _ ?_ (hJ.val (i := 5) (by decide) hS hw _ rfl _ hb)
   clear hJ hw hoff
   go_simp
   rw [unhide HQ]
   simp
 · intro ac wx S hdf hsz hoff hall hJ
  have hb := hJ.all
  have hh5 : ac.tmps.getD 5 undef = .agg #[.int .i64 N.count, .int .i64 N.last, .int .i64 N.spent, .int .i64 N.run, .int .i64 N.left, .int .i64 N.orders, .bool N.blocked, .bool N.owing, .int .i64 N.purse, .int .i64 N.one, .int .i64 N.runs, .int .i64 N.version, .string N.key, .string N.pin] := hJ.v 0 (by decide) (hall 0 (by decide))
  have hh6 : ac.tmps.getD 6 undef = .pointer (some ⟨cb, 0, none⟩) := hJ.v 1 (by decide) (hall 1 (by decide))
  have hh7 : ac.tmps.getD 7 undef = .pointer (some ⟨cb, 0, none⟩) := hJ.v 2 (by decide) (hall 2 (by decide))
  have hh8 : ac.tmps.getD 8 undef = .pointer (some ⟨cb, 0, none⟩) := hJ.v 3 (by decide) (hall 3 (by decide))
  have hh9 : ac.tmps.getD 9 undef = .agg #[.int .i64 c.K.count, .int .i64 c.K.last, .int .i64 c.K.spent, .int .i64 c.K.run, .int .i64 c.K.left, .int .i64 c.K.orders, .bool c.K.blocked, .bool c.K.owing, .int .i64 c.K.purse, .int .i64 c.K.one, .int .i64 c.K.runs, .int .i64 c.K.version, .string c.K.key, .string c.K.pin] := hJ.v 4 (by decide) (hall 4 (by decide))
  have hh10 : ac.tmps.getD 10 undef = .bool true := hJ.v 5 (by decide) (hall 5 (by decide))
  have hmix := mix_eq [false, false, false, false, false, true, true, true, true, true, true, false, false, false, false, false, false, false, false, false, false, false, false, false, false, false, false, false, false] rfl rfl hsz hdf (by kernel_rfl) hoff
  clear hoff hall hsz hdf hJ
  simp only [mixL, Nat.reduceAdd, hh5, hh6, hh7, hh8, hh9, hh10] at hmix
  rw [hmix]
  clear hmix hh5 hh6 hh7 hh8 hh9 hh10
  go_wp2
  go_ret
  exact ⟨rfl, unhide HE _ hb⟩
set_option maxHeartbeats 4000000 in
theorem keep_new (h : CdAt w B cb bb mb v c) (N : Ks) (e : N ≠ c.K) (hN : OkK N) (hs : c.sd < 16) (hl : 9 ≤ c.M.C.length) :
  Calls Tryz.prog 34 #[.pointer (some ⟨cb, 0, none⟩), valK N] w fun e w' => e = .returned (.int .i64 (keepE c N)) ∧ CdAt w' B cb bb mb v (keepC c N) ∧ Chg (cdF cb bb mb v) w w' := by
 obtain ⟨W1, hW1⟩ : ∃ W1, W1 = w.alloc (.cells (kvL N) 60) := ⟨_, rfl⟩
 have hb1 : Below w.heap.size w W1 := by rw [hW1]; exact (Below.refl _ _).alloc (Nat.le_refl _) _
 have hX : W1.heap[w.heap.size]? = some (.cells (kvL N) 60) := by rw [hW1]; exact heap_alloc_new _ _
 have h1 := h.below hb1
 have hfar := h.far
 obtain ⟨g, hg⟩ : ∃ g, g = w.heap.size := ⟨_, rfl⟩
 rw [← hg] at hX hfar
 have hbx := h1.box
 have hcN : ∀ W : World, W.heap[g]? = W1.heap[g]? → W.cell? ⟨g, 0, none⟩ = some (.int .i64 N.count) ∧ W.cell? ⟨g, 1, none⟩ = some (.int .i64 N.last) ∧ W.cell? ⟨g, 2, none⟩ = some (.int .i64 N.spent) ∧ W.cell? ⟨g, 3, none⟩ = some (.int .i64 N.run) ∧ W.cell? ⟨g, 4, none⟩ = some (.int .i64 N.left) ∧ W.cell? ⟨g, 5, none⟩ = some (.int .i64 N.orders) ∧ W.cell? ⟨g, 6, none⟩ = some (.bool N.blocked) ∧ W.cell? ⟨g, 7, none⟩ = some (.bool N.owing) ∧ W.cell? ⟨g, 8, none⟩ = some (.int .i64 N.purse) ∧ W.cell? ⟨g, 9, none⟩ = some (.int .i64 N.one) ∧ W.cell? ⟨g, 10, none⟩ = some (.int .i64 N.runs) ∧ W.cell? ⟨g, 11, none⟩ = some (.int .i64 N.version) ∧ W.cell? ⟨g, 12, none⟩ = some (.string N.key) ∧ W.cell? ⟨g, 13, none⟩ = some (.string N.pin) := fun W hW => by
  rw [hX] at hW; unfold kvL at hW
  refine ⟨?_, ?_, ?_, ?_, ?_, ?_, ?_, ?_, ?_, ?_, ?_, ?_, ?_, ?_⟩ <;> simp [World.cell?, hW]
 have hcK : ∀ W : World, W.heap[cb]? = W1.heap[cb]? → (W.cell? ⟨cb, 0, none⟩ = some (.int .i64 c.K.count) ∧ W.cell? ⟨cb, 1, none⟩ = some (.int .i64 c.K.last) ∧ W.cell? ⟨cb, 2, none⟩ = some (.int .i64 c.K.spent) ∧ W.cell? ⟨cb, 3, none⟩ = some (.int .i64 c.K.run) ∧ W.cell? ⟨cb, 4, none⟩ = some (.int .i64 c.K.left) ∧ W.cell? ⟨cb, 5, none⟩ = some (.int .i64 c.K.orders) ∧ W.cell? ⟨cb, 6, none⟩ = some (.bool c.K.blocked) ∧ W.cell? ⟨cb, 7, none⟩ = some (.bool c.K.owing) ∧ W.cell? ⟨cb, 8, none⟩ = some (.int .i64 c.K.purse) ∧ W.cell? ⟨cb, 9, none⟩ = some (.int .i64 c.K.one) ∧ W.cell? ⟨cb, 10, none⟩ = some (.int .i64 c.K.runs) ∧ W.cell? ⟨cb, 11, none⟩ = some (.int .i64 c.K.version) ∧ W.cell? ⟨cb, 12, none⟩ = some (.string c.K.key) ∧ W.cell? ⟨cb, 13, none⟩ = some (.string c.K.pin)) ∧ W.cell? ⟨cb, 14, none⟩ = some (.pointer (some ⟨bb, 0, none⟩)) := fun W hW => by
  rw [hbx] at hW; unfold cdL at hW
  refine ⟨⟨?_, ?_, ?_, ?_, ?_, ?_, ?_, ?_, ?_, ?_, ?_, ?_, ?_, ?_⟩, ?_⟩ <;> simp [World.cell?, hW]
 have hlg := block_ltR hX
 have hlc := block_ltR hbx
 have hq := e
 obtain ⟨M2, hM2⟩ : ∃ M2, M2 = (wsM c.M c.sd c.H (cK N)).1 := ⟨_, rfl⟩
 obtain ⟨s2, hs2⟩ : ∃ s2, s2 = (wsM c.M c.sd c.H (cK N)).2 := ⟨_, rfl⟩
 have hkc : keepC c N = { c with M := M2, sd := s2, H := cK N, K := if M2.off = true then c.K else N } := by unfold keepC; rw [if_neg e, ← hM2, ← hs2]
 have hke : keepE c N = if M2.off = true then 12 else 0 := by unfold keepE; rw [hkc]
 have HCw : Hid (∀ W, Below W1.heap.size W1 W → Calls Tryz.prog 83 #[.pointer (some ⟨bb, 0, none⟩), .agg #[.string (cK N 0), .string (cK N 1), .string (cK N 2), .string (cK N 3)]] W fun e w' => e = .returned (.tuple #[]) ∧ (KtoAt w' B bb mb v M2 (cK N) (s2 : Int) ∧ Chg (ktoF bb mb v) W w')) := hide (fun W hb => by
  have := kwrite_any (N := cK N) (h1.kto.below hb) hs hl (cK_size hN)
  rw [← hM2, ← hs2] at this
  exact this)
 have HCc := hide (fun W => cells_any hN W)
 have HR : Hid (∀ wz wx, Below W1.heap.size W1 wz → (KtoAt wx B bb mb v M2 (cK N) (s2 : Int) ∧ Chg (ktoF bb mb v) wz wx) → wx.heap[g]? = W1.heap[g]? ∧ wx.heap[cb]? = W1.heap[cb]? ∧ Chg (cdF cb bb mb v) w wx) := hide (fun wz wx hb hr => by
  have e1 : wz.heap[g]? = W1.heap[g]? := hb.block _ hlg
  have e2 : wz.heap[cb]? = W1.heap[cb]? := hb.block _ hlc
  have c1 := hr.2.block g (block_ltR (e1.trans hX)) (fun hf => hfar (.inr hf))
  have c2 := hr.2.block cb (block_ltR (e2.trans hbx)) h1.not
  exact ⟨c1.trans e1, c2.trans e2, (Chg.of_below (cdF cb bb mb v) (hb1.trans (hb.mono hb1.size))).trans (hr.2.mono (fun x hx => (.inr hx : cdF cb bb mb v x))) (fun x hx => .inl hx)⟩)
 have hbX : W1.heap[cb]? = some (.cells (cdL c bb) 70) := hbx
 have HB := hide hbX; have HX := hide (And.intro h1.cs (And.intro h1.cm h1.cv))
 have HQ := hide hq; have HW1 := hide hW1; have HN := hide hcN; have HK := hide hcK; have HLG := hide hlg; have HLC := hide hlc; have HG := hide hg
 rw [hkc, hke]
 clear h h1 hb1 hbx hX hW1 hq hcN hcK hlg hlc hfar e hg hM2 hs2 hkc hke hN hs hl hbX
 go_enter Tryz.func34, Tryz.ntmps34
 unfold valK kvL
 go_upto_region 1 with fail
 have HWu := unhide HW1
 unfold kvL at HWu
 rw [← HWu]
 clear HWu
 rw [← unhide HG]
 refine wp_drawnB (by kernel_rfl) 29 (by rfl) (by kernel_rfl) (by kernel_rfl) 6 (vals [.agg #[.int .i64 N.count, .int .i64 N.last, .int .i64 N.spent, .int .i64 N.run, .int .i64 N.left, .int .i64 N.orders, .bool N.blocked, .bool N.owing, .int .i64 N.purse, .int .i64 N.one, .int .i64 N.runs, .int .i64 N.version, .string N.key, .string N.pin], .pointer (some ⟨cb, 0, none⟩), .pointer (some ⟨cb, 0, none⟩), .pointer (some ⟨cb, 0, none⟩), .agg #[.int .i64 c.K.count, .int .i64 c.K.last, .int .i64 c.K.spent, .int .i64 c.K.run, .int .i64 c.K.left, .int .i64 c.K.orders, .bool c.K.blocked, .bool c.K.owing, .int .i64 c.K.purse, .int .i64 c.K.one, .int .i64 c.K.runs, .int .i64 c.K.version, .string c.K.key, .string c.K.pin], .bool false]) (fun x => x) (Below.refl W1.heap.size W1) ?_ ?_
 · refine ⟨?_, ?_, ?_, ?_, ?_, ?_, trivial⟩
  · intro S ac wx hJ hS hw hoff
   obtain ⟨_, hb⟩ := hJ.same (i := 0) (by decide) hS
   have eT3 : ac.eval (.tmp 3) = .pointer (some ⟨g, 0, none⟩) := (hoff 3 (by kernel_rfl)).trans rfl
   obtain ⟨a0, a1, a2, a3, a4, a5, a6, a7, a8, a9, a10, a11, a12, a13⟩ := unhide HN _ (hb.block _ (unhide HLG))
   have gT3 := evT eT3
   refine Does.value (.agg #[.int .i64 N.count, .int .i64 N.last, .int .i64 N.spent, .int .i64 N.run, .int .i64 N.left, .int .i64 N.orders, .bool N.blocked, .bool N.owing, .int .i64 N.purse, .int .i64 N.one, .int .i64 N.runs, .int .i64 N.version, .string N.key, .string N.pin]) _ ?_ (hJ.val (i := 0) (by decide) hS hw _ rfl _ hb)
   clear hJ hw hoff
   go_simp
  · intro S ac wx hJ hS hw hoff
   obtain ⟨_, hb⟩ := hJ.same (i := 1) (by decide) hS
   have eT0 : ac.eval (.tmp 0) = .pointer (some ⟨cb, 0, none⟩) := (hoff 0 (by kernel_rfl)).trans rfl
   have gT0 := evT eT0
   refine Does.value (.pointer (some ⟨cb, 0, none⟩)) _ ?_ (hJ.val (i := 1) (by decide) hS hw _ rfl _ hb)
   clear hJ hw hoff
   go_simp
  · intro S ac wx hJ hS hw hoff
   obtain ⟨_, hb⟩ := hJ.same (i := 2) (by decide) hS
   have eT6 : ac.eval (.tmp 6) = .pointer (some ⟨cb, 0, none⟩) := hJ.v 1 (by decide) (hw 1 (by kernel_rfl))
   have gT6 := evT eT6
   refine Does.value (.pointer (some ⟨cb, 0, none⟩)) _ ?_ (hJ.val (i := 2) (by decide) hS hw _ rfl _ hb)
   clear hJ hw hoff
   go_simp
  · intro S ac wx hJ hS hw hoff
   obtain ⟨_, hb⟩ := hJ.same (i := 3) (by decide) hS
   have eT7 : ac.eval (.tmp 7) = .pointer (some ⟨cb, 0, none⟩) := hJ.v 2 (by decide) (hw 2 (by kernel_rfl))
   have gT7 := evT eT7
   refine Does.value (.pointer (some ⟨cb, 0, none⟩)) _ ?_ (hJ.val (i := 3) (by decide) hS hw _ rfl _ hb)
   clear hJ hw hoff
   go_simp
  · intro S ac wx hJ hS hw hoff
   obtain ⟨_, hb⟩ := hJ.same (i := 4) (by decide) hS
   have eT8 : ac.eval (.tmp 8) = .pointer (some ⟨cb, 0, none⟩) := hJ.v 3 (by decide) (hw 3 (by kernel_rfl))
   obtain ⟨⟨b0, b1, b2, b3, b4, b5, b6, b7, b8, b9, b10, b11, b12, b13⟩, _⟩ := unhide HK _ (hb.block _ (unhide HLC))
   have gT8 := evT eT8
   refine Does.value (.agg #[.int .i64 c.K.count, .int .i64 c.K.last, .int .i64 c.K.spent, .int .i64 c.K.run, .int .i64 c.K.left, .int .i64 c.K.orders, .bool c.K.blocked, .bool c.K.owing, .int .i64 c.K.purse, .int .i64 c.K.one, .int .i64 c.K.runs, .int .i64 c.K.version, .string c.K.key, .string c.K.pin]) _ ?_ (hJ.val (i := 4) (by decide) hS hw _ rfl _ hb)
   clear hJ hw hoff
   go_simp
  · intro S ac wx hJ hS hw hoff
   obtain ⟨_, hb⟩ := hJ.same (i := 5) (by decide) hS
   have eT5 : ac.eval (.tmp 5) = .agg #[.int .i64 N.count, .int .i64 N.last, .int .i64 N.spent, .int .i64 N.run, .int .i64 N.left, .int .i64 N.orders, .bool N.blocked, .bool N.owing, .int .i64 N.purse, .int .i64 N.one, .int .i64 N.runs, .int .i64 N.version, .string N.key, .string N.pin] := hJ.v 0 (by decide) (hw 0 (by kernel_rfl))
   have eT9 : ac.eval (.tmp 9) = .agg #[.int .i64 c.K.count, .int .i64 c.K.last, .int .i64 c.K.spent, .int .i64 c.K.run, .int .i64 c.K.left, .int .i64 c.K.orders, .bool c.K.blocked, .bool c.K.owing, .int .i64 c.K.purse, .int .i64 c.K.one, .int .i64 c.K.runs, .int .i64 c.K.version, .string c.K.key, .string c.K.pin] := hJ.v 4 (by decide) (hw 4 (by kernel_rfl))
   have gT5 := evT eT5
   have gT9 := evT eT9
   refine Does.value (.bool false) _ ?_ (hJ.val (i := 5) (by decide) hS hw _ rfl _ hb)
   clear hJ hw hoff
   go_simp
   exact fun q0 q1 q2 q3 q4 q5 q6 q7 q8 q9 q10 q11 q12 q13 => unhide HQ (ks_ext q0 q1 q2 q3 q4 q5 q6 q7 q8 q9 q10 q11 (toList_injK q12) (toList_injK q13))
 · intro ac wx S hdf hsz hoff hall hJ
  have hb := hJ.all
  have hh5 : ac.tmps.getD 5 undef = .agg #[.int .i64 N.count, .int .i64 N.last, .int .i64 N.spent, .int .i64 N.run, .int .i64 N.left, .int .i64 N.orders, .bool N.blocked, .bool N.owing, .int .i64 N.purse, .int .i64 N.one, .int .i64 N.runs, .int .i64 N.version, .string N.key, .string N.pin] := hJ.v 0 (by decide) (hall 0 (by decide))
  have hh6 : ac.tmps.getD 6 undef = .pointer (some ⟨cb, 0, none⟩) := hJ.v 1 (by decide) (hall 1 (by decide))
  have hh7 : ac.tmps.getD 7 undef = .pointer (some ⟨cb, 0, none⟩) := hJ.v 2 (by decide) (hall 2 (by decide))
  have hh8 : ac.tmps.getD 8 undef = .pointer (some ⟨cb, 0, none⟩) := hJ.v 3 (by decide) (hall 3 (by decide))
  have hh9 : ac.tmps.getD 9 undef = .agg #[.int .i64 c.K.count, .int .i64 c.K.last, .int .i64 c.K.spent, .int .i64 c.K.run, .int .i64 c.K.left, .int .i64 c.K.orders, .bool c.K.blocked, .bool c.K.owing, .int .i64 c.K.purse, .int .i64 c.K.one, .int .i64 c.K.runs, .int .i64 c.K.version, .string c.K.key, .string c.K.pin] := hJ.v 4 (by decide) (hall 4 (by decide))
  have hh10 : ac.tmps.getD 10 undef = .bool false := hJ.v 5 (by decide) (hall 5 (by decide))
  have hmix := mix_eq [false, false, false, false, false, true, true, true, true, true, true, false, false, false, false, false, false, false, false, false, false, false, false, false, false, false, false, false, false] rfl rfl hsz hdf (by kernel_rfl) hoff
  clear hoff hall hsz hdf hJ
  simp only [mixL, Nat.reduceAdd, hh5, hh6, hh7, hh8, hh9, hh10] at hmix
  rw [hmix]
  clear hmix hh5 hh6 hh7 hh8 hh9 hh10
  go_wp2_with fail
  refine wp_drawnR (by kernel_rfl) 29 (by rfl) (by kernel_rfl) (by kernel_rfl) 6 (vals [.pointer (some ⟨cb, 0, none⟩), .pointer (some ⟨cb, 0, none⟩), .pointer (some ⟨cb, 14, none⟩), .pointer (some ⟨bb, 0, none⟩), .agg #[.int .i64 N.count, .int .i64 N.last, .int .i64 N.spent, .int .i64 N.run, .int .i64 N.left, .int .i64 N.orders, .bool N.blocked, .bool N.owing, .int .i64 N.purse, .int .i64 N.one, .int .i64 N.runs, .int .i64 N.version, .string N.key, .string N.pin], .agg #[.string (cK N 0), .string (cK N 1), .string (cK N 2), .string (cK N 3)], .tuple #[]]) (fun x y => KtoAt y B bb mb v M2 (cK N) (s2 : Int) ∧ Chg (ktoF bb mb v) x y) (hb) ?_ ?_
  · refine ⟨?_, ?_, ?_, ?_, ?_, ?_, ?_, trivial⟩
   · intro S ac wx hJ hS hw hoff
    obtain ⟨_, hb⟩ := hJ.same (i := 0) (by decide) hS
    have eT0 : ac.eval (.tmp 0) = .pointer (some ⟨cb, 0, none⟩) := (hoff 0 (by kernel_rfl)).trans rfl
    have gT0 := evT eT0
    refine Does.value (.pointer (some ⟨cb, 0, none⟩)) _ ?_ (hJ.val (i := 0) (by decide) hS hw _ rfl _ hb)
    clear hJ hw hoff
    go_simp
   · intro S ac wx hJ hS hw hoff
    obtain ⟨_, hb⟩ := hJ.same (i := 1) (by decide) hS
    have eT11 : ac.eval (.tmp 11) = .pointer (some ⟨cb, 0, none⟩) := hJ.v 0 (by decide) (hw 0 (by kernel_rfl))
    have gT11 := evT eT11
    refine Does.value (.pointer (some ⟨cb, 0, none⟩)) _ ?_ (hJ.val (i := 1) (by decide) hS hw _ rfl _ hb)
    clear hJ hw hoff
    go_simp
   · intro S ac wx hJ hS hw hoff
    obtain ⟨_, hb⟩ := hJ.same (i := 2) (by decide) hS
    have eT12 : ac.eval (.tmp 12) = .pointer (some ⟨cb, 0, none⟩) := hJ.v 1 (by decide) (hw 1 (by kernel_rfl))
    have gT12 := evT eT12
    refine Does.value (.pointer (some ⟨cb, 14, none⟩)) _ ?_ (hJ.val (i := 2) (by decide) hS hw _ rfl _ hb)
    clear hJ hw hoff
    go_simp
   · intro S ac wx hJ hS hw hoff
    obtain ⟨_, hb⟩ := hJ.same (i := 3) (by decide) hS
    have eT13 : ac.eval (.tmp 13) = .pointer (some ⟨cb, 14, none⟩) := hJ.v 2 (by decide) (hw 2 (by kernel_rfl))
    obtain ⟨_, b14⟩ := unhide HK _ (hb.block _ (unhide HLC))
    have gT13 := evT eT13
    refine Does.value (.pointer (some ⟨bb, 0, none⟩)) _ ?_ (hJ.val (i := 3) (by decide) hS hw _ rfl _ hb)
    clear hJ hw hoff
    go_simp
   · intro S ac wx hJ hS hw hoff
    obtain ⟨_, hb⟩ := hJ.same (i := 4) (by decide) hS
    have eT3 : ac.eval (.tmp 3) = .pointer (some ⟨g, 0, none⟩) := (hoff 3 (by kernel_rfl)).trans rfl
    obtain ⟨a0, a1, a2, a3, a4, a5, a6, a7, a8, a9, a10, a11, a12, a13⟩ := unhide HN _ (hb.block _ (unhide HLG))
    have gT3 := evT eT3
    refine Does.value (.agg #[.int .i64 N.count, .int .i64 N.last, .int .i64 N.spent, .int .i64 N.run, .int .i64 N.left, .int .i64 N.orders, .bool N.blocked, .bool N.owing, .int .i64 N.purse, .int .i64 N.one, .int .i64 N.runs, .int .i64 N.version, .string N.key, .string N.pin]) _ ?_ (hJ.val (i := 4) (by decide) hS hw _ rfl _ hb)
    clear hJ hw hoff
    go_simp
   · intro S ac wx hJ hS hw hoff
    obtain ⟨_, hb⟩ := hJ.same (i := 5) (by decide) hS
    have eT15 : ac.eval (.tmp 15) = .agg #[.int .i64 N.count, .int .i64 N.last, .int .i64 N.spent, .int .i64 N.run, .int .i64 N.left, .int .i64 N.orders, .bool N.blocked, .bool N.owing, .int .i64 N.purse, .int .i64 N.one, .int .i64 N.runs, .int .i64 N.version, .string N.key, .string N.pin] := hJ.v 4 (by decide) (hw 4 (by kernel_rfl))
    refine does_call1 84 (.tmp 15) _ rfl _ eT15 ent_cellsK (unhide HCc wx) ?_
    rintro e wy ⟨rfl, hy⟩
    exact ⟨_, rfl, hJ.val (i := 5) (by decide) hS hw _ rfl _ (hb.trans (hy.mono hb.size))⟩
   · intro S ac wx hJ hS hw hoff
    have hb := hJ.o hS
    have eT14 : ac.eval (.tmp 14) = .pointer (some ⟨bb, 0, none⟩) := hJ.v 3 (by decide) (hw 3 (by kernel_rfl))
    have eT16 : ac.eval (.tmp 16) = .agg #[.string (cK N 0), .string (cK N 1), .string (cK N 2), .string (cK N 3)] := hJ.v 5 (by decide) (hw 5 (by kernel_rfl))
    have hall : ∀ k, k < 6 → S k = true := by
     intro k hk
     have hd : k = 0 ∨ k = 1 ∨ k = 2 ∨ k = 3 ∨ k = 4 ∨ k = 5 := by omega
     rcases hd with rfl | rfl | rfl | rfl | rfl | rfl
     · exact hJ.c 1 0 (hJ.c 2 1 (hJ.c 3 2 (hw 3 (by kernel_rfl)) (by kernel_rfl)) (by kernel_rfl)) (by kernel_rfl)
     · exact hJ.c 2 1 (hJ.c 3 2 (hw 3 (by kernel_rfl)) (by kernel_rfl)) (by kernel_rfl)
     · exact hJ.c 3 2 (hw 3 (by kernel_rfl)) (by kernel_rfl)
     · exact hw 3 (by kernel_rfl)
     · exact hJ.c 5 4 (hw 5 (by kernel_rfl)) (by kernel_rfl)
     · exact hw 5 (by kernel_rfl)
    refine does_call2 83 (.tmp 14) (.tmp 16) _ rfl _ _ eT14 eT16 ent_writeK (unhide HCw wx hb) ?_
    rintro e wy ⟨rfl, hy⟩
    exact ⟨_, rfl, hJ.last hS hw hall _ rfl hy⟩
  · intro ac wx S hdf hsz hoff hall hJ
   obtain ⟨⟨wz, hb, hR⟩, _⟩ := hJ.t (hall 6 (by decide))
   have hh11 : ac.tmps.getD 11 undef = .pointer (some ⟨cb, 0, none⟩) := hJ.v 0 (by decide) (hall 0 (by decide))
   have hh12 : ac.tmps.getD 12 undef = .pointer (some ⟨cb, 0, none⟩) := hJ.v 1 (by decide) (hall 1 (by decide))
   have hh13 : ac.tmps.getD 13 undef = .pointer (some ⟨cb, 14, none⟩) := hJ.v 2 (by decide) (hall 2 (by decide))
   have hh14 : ac.tmps.getD 14 undef = .pointer (some ⟨bb, 0, none⟩) := hJ.v 3 (by decide) (hall 3 (by decide))
   have hh15 : ac.tmps.getD 15 undef = .agg #[.int .i64 N.count, .int .i64 N.last, .int .i64 N.spent, .int .i64 N.run, .int .i64 N.left, .int .i64 N.orders, .bool N.blocked, .bool N.owing, .int .i64 N.purse, .int .i64 N.one, .int .i64 N.runs, .int .i64 N.version, .string N.key, .string N.pin] := hJ.v 4 (by decide) (hall 4 (by decide))
   have hh16 : ac.tmps.getD 16 undef = .agg #[.string (cK N 0), .string (cK N 1), .string (cK N 2), .string (cK N 3)] := hJ.v 5 (by decide) (hall 5 (by decide))
   have hh17 : ac.tmps.getD 17 undef = .tuple #[] := hJ.v 6 (by decide) (hall 6 (by decide))
   have hmix := mix_eq [false, false, false, false, false, false, false, false, false, false, false, true, true, true, true, true, true, true, false, false, false, false, false, false, false, false, false, false, false] rfl rfl hsz hdf (by kernel_rfl) hoff
   clear hoff hall hsz hdf hJ
   simp only [mixL, Nat.reduceAdd, hh11, hh12, hh13, hh14, hh15, hh16, hh17] at hmix
   rw [hmix]
   clear hmix hh11 hh12 hh13 hh14 hh15 hh16 hh17
   obtain ⟨r1, r2, r3⟩ := unhide HR _ _ hb hR
   obtain ⟨a0, a1, a2, a3, a4, a5, a6, a7, a8, a9, a10, a11, a12, a13⟩ := unhide HN _ r1
   obtain ⟨⟨b0, b1, b2, b3, b4, b5, b6, b7, b8, b9, b10, b11, b12, b13⟩, b14⟩ := unhide HK _ r2
   obtain ⟨hk, hcg⟩ := hR
   have b15 : wx.cell? ⟨bb, 6, none⟩ = some (.bool M2.off) := hk.cells.2
   have hbx := r2.trans (unhide HB)
   obtain ⟨x1, x2, x3⟩ := unhide HX
   clear r1 r2 hcg hb
   cases hoff2 : M2.off with
   | true =>
    rw [hoff2] at b15
    have HE : Hid (CdAt wx B cb bb mb v { c with M := M2, sd := s2, H := cK N, K := c.K } ∧ Chg (cdF cb bb mb v) w wx) := hide ⟨⟨hbx, hk, x1, x2, x3⟩, r3⟩
    clear hk hbx r3
    go_wp2
    go_ret
    exact ⟨rfl, unhide HE⟩
   | false =>
    rw [hoff2] at b15
    have ff : ∀ i, wx.frozen? ⟨cb, i, none⟩ = false := fun i => by unfold cdL at hbx; simp [World.frozen?, hbx]
    have f0 := ff 0
    have f1 := ff 1
    have f2 := ff 2
    have f3 := ff 3
    have f4 := ff 4
    have f5 := ff 5
    have f6 := ff 6
    have f7 := ff 7
    have f8 := ff 8
    have f9 := ff 9
    have f10 := ff 10
    have f11 := ff 11
    have f12 := ff 12
    have f13 := ff 13
    have HE : Hid (CdAt ((((((((((((((wx.setCell ⟨cb, 0, none⟩ (.int .i64 N.count)).setCell ⟨cb, 1, none⟩ (.int .i64 N.last)).setCell ⟨cb, 2, none⟩ (.int .i64 N.spent)).setCell ⟨cb, 3, none⟩ (.int .i64 N.run)).setCell ⟨cb, 4, none⟩ (.int .i64 N.left)).setCell ⟨cb, 5, none⟩ (.int .i64 N.orders)).setCell ⟨cb, 6, none⟩ (.bool N.blocked)).setCell ⟨cb, 7, none⟩ (.bool N.owing)).setCell ⟨cb, 8, none⟩ (.int .i64 N.purse)).setCell ⟨cb, 9, none⟩ (.int .i64 N.one)).setCell ⟨cb, 10, none⟩ (.int .i64 N.runs)).setCell ⟨cb, 11, none⟩ (.int .i64 N.version)).setCell ⟨cb, 12, none⟩ (.string N.key)).setCell ⟨cb, 13, none⟩ (.string N.pin)) B cb bb mb v { c with M := M2, sd := s2, H := cK N, K := N } ∧ Chg (cdF cb bb mb v) w ((((((((((((((wx.setCell ⟨cb, 0, none⟩ (.int .i64 N.count)).setCell ⟨cb, 1, none⟩ (.int .i64 N.last)).setCell ⟨cb, 2, none⟩ (.int .i64 N.spent)).setCell ⟨cb, 3, none⟩ (.int .i64 N.run)).setCell ⟨cb, 4, none⟩ (.int .i64 N.left)).setCell ⟨cb, 5, none⟩ (.int .i64 N.orders)).setCell ⟨cb, 6, none⟩ (.bool N.blocked)).setCell ⟨cb, 7, none⟩ (.bool N.owing)).setCell ⟨cb, 8, none⟩ (.int .i64 N.purse)).setCell ⟨cb, 9, none⟩ (.int .i64 N.one)).setCell ⟨cb, 10, none⟩ (.int .i64 N.runs)).setCell ⟨cb, 11, none⟩ (.int .i64 N.version)).setCell ⟨cb, 12, none⟩ (.string N.key)).setCell ⟨cb, 13, none⟩ (.string N.pin))) := hide (by
     have hc : Chg (fun x => x = cb) wx ((((((((((((((wx.setCell ⟨cb, 0, none⟩ (.int .i64 N.count)).setCell ⟨cb, 1, none⟩ (.int .i64 N.last)).setCell ⟨cb, 2, none⟩ (.int .i64 N.spent)).setCell ⟨cb, 3, none⟩ (.int .i64 N.run)).setCell ⟨cb, 4, none⟩ (.int .i64 N.left)).setCell ⟨cb, 5, none⟩ (.int .i64 N.orders)).setCell ⟨cb, 6, none⟩ (.bool N.blocked)).setCell ⟨cb, 7, none⟩ (.bool N.owing)).setCell ⟨cb, 8, none⟩ (.int .i64 N.purse)).setCell ⟨cb, 9, none⟩ (.int .i64 N.one)).setCell ⟨cb, 10, none⟩ (.int .i64 N.runs)).setCell ⟨cb, 11, none⟩ (.int .i64 N.version)).setCell ⟨cb, 12, none⟩ (.string N.key)).setCell ⟨cb, 13, none⟩ (.string N.pin)) := (Chg.trans (Chg.trans (Chg.trans (Chg.trans (Chg.trans (Chg.trans (Chg.trans (Chg.trans (Chg.trans (Chg.trans (Chg.trans (Chg.trans (Chg.trans (Chg.setCell wx ⟨cb, 0, none⟩ _) (Chg.setCell _ ⟨cb, 1, none⟩ _) (fun x hx => .inl hx)) (Chg.setCell _ ⟨cb, 2, none⟩ _) (fun x hx => .inl hx)) (Chg.setCell _ ⟨cb, 3, none⟩ _) (fun x hx => .inl hx)) (Chg.setCell _ ⟨cb, 4, none⟩ _) (fun x hx => .inl hx)) (Chg.setCell _ ⟨cb, 5, none⟩ _) (fun x hx => .inl hx)) (Chg.setCell _ ⟨cb, 6, none⟩ _) (fun x hx => .inl hx)) (Chg.setCell _ ⟨cb, 7, none⟩ _) (fun x hx => .inl hx)) (Chg.setCell _ ⟨cb, 8, none⟩ _) (fun x hx => .inl hx)) (Chg.setCell _ ⟨cb, 9, none⟩ _) (fun x hx => .inl hx)) (Chg.setCell _ ⟨cb, 10, none⟩ _) (fun x hx => .inl hx)) (Chg.setCell _ ⟨cb, 11, none⟩ _) (fun x hx => .inl hx)) (Chg.setCell _ ⟨cb, 12, none⟩ _) (fun x hx => .inl hx)) (Chg.setCell _ ⟨cb, 13, none⟩ _) (fun x hx => .inl hx))
     refine ⟨⟨?_, hk.chg hc (fun x hx hf => ?_), x1, x2, x3⟩, r3.trans (hc.mono (fun x hx => (.inl hx : cdF cb bb mb v x))) (fun x hx => .inl hx)⟩
     · unfold cdL at hbx ⊢
      simp [World.setCell, Array.getElem?_modify, hbx]
     · rw [hx] at hf
      rcases hf with e | e | e
      · exact x1 e
      · exact x2 e
      · exact x3 e)
    clear hk hbx r3 ff
    go_wp2
    all_goals go_ret
    all_goals exact ⟨rfl, unhide HE⟩
end
end Go.Proofs.YtajkbkljonejnaaGreatDoor
