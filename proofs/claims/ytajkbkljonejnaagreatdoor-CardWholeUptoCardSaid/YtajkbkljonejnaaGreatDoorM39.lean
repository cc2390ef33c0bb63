/- A card of a memory: Open of the program. (Made by drafts/genCdC6.py.) -/
import Derived.Test.YtajkbkljonejnaaGreatDoorM18
import Derived.Test.YtajkbkljonejnaaGreatDoorM22
import Derived.Test.YtajkbkljonejnaaGreatDoorM38
namespace Go.Proofs.YtajkbkljonejnaaGreatDoor
open Go.RowKit
set_option linter.unusedVariables false
set_option linter.unusedSimpArgs false
set_option maxRecDepth 100000
def roomR (fs : List (Int × Int)) : Int := fs.foldl (fun a f => IntKind.i64.wrap (a + f.2)) 0
theorem roomR_step (fs : List (Int × Int)) (j : Nat) (h : j < fs.length) : roomR (fs.take (j + 1)) = IntKind.i64.wrap (roomR (fs.take j) + (fs.getD j (0, 0)).2) := by
  unfold roomR
  rw [List.take_add_one, List.getElem?_eq_getElem h, List.foldl_append, List.getD_eq_getElem?_getD, List.getElem?_eq_getElem h]
  rfl
def bareC (K0 : Ks) (M : Mm) (tr room : Int) (sp sq : ByteArray) : Cd := ⟨K0, fun _ => ⟨#[]⟩, 0, M, tr, room, sp, sq, noPay⟩
section
variable {w w' : World} {B cb bb mb : Nat} {v : Value} {c : Cd}
theorem CdAt.setRoom (h : CdAt w B cb bb mb v c) (r : Int) : CdAt (w.setCell ⟨cb, 16, none⟩ (.int .i64 r)) B cb bb mb v { c with room := r } := by
  have hc : Chg (fun x => x = cb) w (w.setCell ⟨cb, 16, none⟩ (.int .i64 r)) := Chg.setCell w ⟨cb, 16, none⟩ _; refine ⟨?_, h.kto.chg hc (fun x hx hf => h.not (hx ▸ hf)), h.cs, h.cm, h.cv⟩; have hb := h.box
  unfold cdL at hb ⊢
  simp [World.setCell, Array.getElem?_modify, hb]
theorem CdAt.setK (h : CdAt w B cb bb mb v c) (k : Ks) : CdAt ((((((((((((((w.setCell ⟨cb, 0, none⟩ (.int .i64 k.count)).setCell ⟨cb, 1, none⟩ (.int .i64 k.last)).setCell ⟨cb, 2, none⟩ (.int .i64 k.spent)).setCell ⟨cb, 3, none⟩ (.int .i64 k.run)).setCell ⟨cb, 4, none⟩ (.int .i64 k.left)).setCell ⟨cb, 5, none⟩ (.int .i64 k.orders)).setCell ⟨cb, 6, none⟩ (.bool k.blocked)).setCell ⟨cb, 7, none⟩ (.bool k.owing)).setCell ⟨cb, 8, none⟩ (.int .i64 k.purse)).setCell ⟨cb, 9, none⟩ (.int .i64 k.one)).setCell ⟨cb, 10, none⟩ (.int .i64 k.runs)).setCell ⟨cb, 11, none⟩ (.int .i64 k.version)).setCell ⟨cb, 12, none⟩ (.string k.key)).setCell ⟨cb, 13, none⟩ (.string k.pin)) B cb bb mb v { c with K := k } ∧ Chg (fun x => x = cb) w ((((((((((((((w.setCell ⟨cb, 0, none⟩ (.int .i64 k.count)).setCell ⟨cb, 1, none⟩ (.int .i64 k.last)).setCell ⟨cb, 2, none⟩ (.int .i64 k.spent)).setCell ⟨cb, 3, none⟩ (.int .i64 k.run)).setCell ⟨cb, 4, none⟩ (.int .i64 k.left)).setCell ⟨cb, 5, none⟩ (.int .i64 k.orders)).setCell ⟨cb, 6, none⟩ (.bool k.blocked)).setCell ⟨cb, 7, none⟩ (.bool k.owing)).setCell ⟨cb, 8, none⟩ (.int .i64 k.purse)).setCell ⟨cb, 9, none⟩ (.int .i64 k.one)).setCell ⟨cb, 10, none⟩ (.int .i64 k.runs)).setCell ⟨cb, 11, none⟩ (.int .i64 k.version)).setCell ⟨cb, 12, none⟩ (.string k.key)).setCell ⟨cb, 13, none⟩ (.string k.pin)) := by
  have hc : Chg (fun x => x = cb) w ((((((((((((((w.setCell ⟨cb, 0, none⟩ (.int .i64 k.count)).setCell ⟨cb, 1, none⟩ (.int .i64 k.last)).setCell ⟨cb, 2, none⟩ (.int .i64 k.spent)).setCell ⟨cb, 3, none⟩ (.int .i64 k.run)).setCell ⟨cb, 4, none⟩ (.int .i64 k.left)).setCell ⟨cb, 5, none⟩ (.int .i64 k.orders)).setCell ⟨cb, 6, none⟩ (.bool k.blocked)).setCell ⟨cb, 7, none⟩ (.bool k.owing)).setCell ⟨cb, 8, none⟩ (.int .i64 k.purse)).setCell ⟨cb, 9, none⟩ (.int .i64 k.one)).setCell ⟨cb, 10, none⟩ (.int .i64 k.runs)).setCell ⟨cb, 11, none⟩ (.int .i64 k.version)).setCell ⟨cb, 12, none⟩ (.string k.key)).setCell ⟨cb, 13, none⟩ (.string k.pin)) := (Chg.trans (Chg.trans (Chg.trans (Chg.trans (Chg.trans (Chg.trans (Chg.trans (Chg.trans (Chg.trans (Chg.trans (Chg.trans (Chg.trans (Chg.trans (Chg.setCell w ⟨cb, 0, none⟩ _) (Chg.setCell _ ⟨cb, 1, none⟩ _) (fun x hx => .inl hx)) (Chg.setCell _ ⟨cb, 2, none⟩ _) (fun x hx => .inl hx)) (Chg.setCell _ ⟨cb, 3, none⟩ _) (fun x hx => .inl hx)) (Chg.setCell _ ⟨cb, 4, none⟩ _) (fun x hx => .inl hx)) (Chg.setCell _ ⟨cb, 5, none⟩ _) (fun x hx => .inl hx)) (Chg.setCell _ ⟨cb, 6, none⟩ _) (fun x hx => .inl hx)) (Chg.setCell _ ⟨cb, 7, none⟩ _) (fun x hx => .inl hx)) (Chg.setCell _ ⟨cb, 8, none⟩ _) (fun x hx => .inl hx)) (Chg.setCell _ ⟨cb, 9, none⟩ _) (fun x hx => .inl hx)) (Chg.setCell _ ⟨cb, 10, none⟩ _) (fun x hx => .inl hx)) (Chg.setCell _ ⟨cb, 11, none⟩ _) (fun x hx => .inl hx)) (Chg.setCell _ ⟨cb, 12, none⟩ _) (fun x hx => .inl hx)) (Chg.setCell _ ⟨cb, 13, none⟩ _) (fun x hx => .inl hx)); refine ⟨⟨?_, h.kto.chg hc (fun x hx hf => h.not (hx ▸ hf)), h.cs, h.cm, h.cv⟩, hc⟩; have hb := h.box
  unfold cdL at hb ⊢
  simp [World.setCell, Array.getElem?_modify, hb]
theorem CdAt.fro (h : CdAt w B cb bb mb v c) (i : Nat) : w.frozen? ⟨cb, i, none⟩ = false := by
  have := h.box
  unfold cdL at this
  simp [World.frozen?, this]
theorem CdAt.rm (h : CdAt w B cb bb mb v c) : w.cell? ⟨cb, 16, none⟩ = some (.int .i64 c.room) := by
  have := h.box
  unfold cdL at this
  simp [World.cell?, this]
theorem CdAt.st14 (h : CdAt w B cb bb mb v c) : w.cell? ⟨cb, 0, none⟩ = some (.int .i64 c.K.count) ∧ w.cell? ⟨cb, 1, none⟩ = some (.int .i64 c.K.last) ∧ w.cell? ⟨cb, 2, none⟩ = some (.int .i64 c.K.spent) ∧ w.cell? ⟨cb, 3, none⟩ = some (.int .i64 c.K.run) ∧ w.cell? ⟨cb, 4, none⟩ = some (.int .i64 c.K.left) ∧ w.cell? ⟨cb, 5, none⟩ = some (.int .i64 c.K.orders) ∧ w.cell? ⟨cb, 6, none⟩ = some (.bool c.K.blocked) ∧ w.cell? ⟨cb, 7, none⟩ = some (.bool c.K.owing) ∧ w.cell? ⟨cb, 8, none⟩ = some (.int .i64 c.K.purse) ∧ w.cell? ⟨cb, 9, none⟩ = some (.int .i64 c.K.one) ∧ w.cell? ⟨cb, 10, none⟩ = some (.int .i64 c.K.runs) ∧ w.cell? ⟨cb, 11, none⟩ = some (.int .i64 c.K.version) ∧ w.cell? ⟨cb, 12, none⟩ = some (.string c.K.key) ∧ w.cell? ⟨cb, 13, none⟩ = some (.string c.K.pin) := by
  have := h.box
  unfold cdL at this
  refine ⟨?_, ?_, ?_, ?_, ?_, ?_, ?_, ?_, ?_, ?_, ?_, ?_, ?_, ?_⟩ <;> simp [World.cell?, this]
theorem CdAt.kto' {M : Mm} {H : Nat → ByteArray} {sd : Nat} (h : CdAt w B cb bb mb v c) (hk : KtoAt w' B bb mb v M H (sd : Int)) (hc : Chg (ktoF bb mb v) w w') : CdAt w' B cb bb mb v { c with M := M, H := H, sd := sd } :=
  ⟨(hc.block cb h.lt h.not).trans h.box, hk, h.cs, h.cm, h.cv⟩
end
def opG (id pin key : ByteArray) (pu on ru tr ve : Int) (sp sq : ByteArray) (fs : List (Int × Int)) (ao : Option Addr) (cap : Nat) (mb g L : Nat) : Nat → Value → World → Prop
  | 0, x, _ => x = .agg #[.string id, .string pin, .string key, .int .i64 pu, .int .i64 on, .int .i64 ru, .int .i64 tr, .int .i64 ve, .string sp, .string sq, .slice ao fs.length cap]
  | 1, x, _ => x = .agg #[.int .i64 0, .int .i64 0, .int .i64 0, .int .i64 0, .int .i64 tr, .int .i64 0, .bool false, .bool false, .int .i64 pu, .int .i64 on, .int .i64 ru, .int .i64 ve, .string key, .string pin]
  | 2, x, _ => x = .iface 28 (.pointer (some ⟨mb, 0, none⟩))
  | 3, x, _ => x = .agg #[.iface 28 (.pointer (some ⟨mb, 0, none⟩)), .string ⟨#[]⟩, .string ⟨#[]⟩, .string ⟨#[]⟩, .string ⟨#[]⟩, .int .i64 0, .bool false]
  | 4, x, w => ∃ bb, x = .pointer (some ⟨bb, 0, none⟩) ∧ w.heap[bb]? = some (.cells #[.iface 28 (.pointer (some ⟨mb, 0, none⟩)), .string ⟨#[]⟩, .string ⟨#[]⟩, .string ⟨#[]⟩, .string ⟨#[]⟩, .int .i64 0, .bool false] 66) ∧ L ≤ bb
  | 5, x, _ => x = .pointer (some ⟨g, 6, none⟩)
  | 6, x, _ => x = .int .i64 tr
  | 7, x, _ => x = .pointer (some ⟨g, 8, none⟩)
  | 8, x, _ => x = .agg #[.string sp, .string sq]
  | 9, x, w => ∃ bb, x = .agg #[.int .i64 0, .int .i64 0, .int .i64 0, .int .i64 0, .int .i64 tr, .int .i64 0, .bool false, .bool false, .int .i64 pu, .int .i64 on, .int .i64 ru, .int .i64 ve, .string key, .string pin, .pointer (some ⟨bb, 0, none⟩), .int .i64 tr, .int .i64 0, .string sp, .string sq, .int .i64 0, .int .i64 0, .int .i64 0, .int .i64 0, .bool false, .int .i64 0, .int .i64 0, .string ⟨#[]⟩, .string ⟨#[]⟩, .string ⟨#[]⟩] ∧ w.heap[bb]? = some (.cells #[.iface 28 (.pointer (some ⟨mb, 0, none⟩)), .string ⟨#[]⟩, .string ⟨#[]⟩, .string ⟨#[]⟩, .string ⟨#[]⟩, .int .i64 0, .bool false] 66) ∧ L ≤ bb
  | 10, x, w => ∃ cb bb, x = .pointer (some ⟨cb, 0, none⟩) ∧ w.heap[cb]? = some (.cells #[.int .i64 0, .int .i64 0, .int .i64 0, .int .i64 0, .int .i64 tr, .int .i64 0, .bool false, .bool false, .int .i64 pu, .int .i64 on, .int .i64 ru, .int .i64 ve, .string key, .string pin, .pointer (some ⟨bb, 0, none⟩), .int .i64 tr, .int .i64 0, .string sp, .string sq, .int .i64 0, .int .i64 0, .int .i64 0, .int .i64 0, .bool false, .int .i64 0, .int .i64 0, .string ⟨#[]⟩, .string ⟨#[]⟩, .string ⟨#[]⟩] 70) ∧ w.heap[bb]? = some (.cells #[.iface 28 (.pointer (some ⟨mb, 0, none⟩)), .string ⟨#[]⟩, .string ⟨#[]⟩, .string ⟨#[]⟩, .string ⟨#[]⟩, .int .i64 0, .bool false] 66) ∧ L ≤ cb ∧ L ≤ bb ∧ cb ≠ bb
  | 11, x, w => ∃ cb bb, x = .pointer (some ⟨cb, 0, none⟩) ∧ w.heap[cb]? = some (.cells #[.int .i64 0, .int .i64 0, .int .i64 0, .int .i64 0, .int .i64 tr, .int .i64 0, .bool false, .bool false, .int .i64 pu, .int .i64 on, .int .i64 ru, .int .i64 ve, .string key, .string pin, .pointer (some ⟨bb, 0, none⟩), .int .i64 tr, .int .i64 0, .string sp, .string sq, .int .i64 0, .int .i64 0, .int .i64 0, .int .i64 0, .bool false, .int .i64 0, .int .i64 0, .string ⟨#[]⟩, .string ⟨#[]⟩, .string ⟨#[]⟩] 70) ∧ w.heap[bb]? = some (.cells #[.iface 28 (.pointer (some ⟨mb, 0, none⟩)), .string ⟨#[]⟩, .string ⟨#[]⟩, .string ⟨#[]⟩, .string ⟨#[]⟩, .int .i64 0, .bool false] 66) ∧ L ≤ cb ∧ L ≤ bb ∧ cb ≠ bb
  | _, _, _ => True
theorem heap_keep {w w' : World} {b : Nat} {o : Obj} (h : w.heap[b]? = some o) (hb : Below w.heap.size w w') : w'.heap[b]? = some o := (hb.block _ (block_ltR h)).trans h
theorem opG_mono (id pin key : ByteArray) (pu on ru tr ve : Int) (sp sq : ByteArray) (fs : List (Int × Int)) (ao : Option Addr) (cap : Nat) (mb g L : Nat) : ∀ k x w w', opG id pin key pu on ru tr ve sp sq fs ao cap mb g L k x w → Below w.heap.size w w' → opG id pin key pu on ru tr ve sp sq fs ao cap mb g L k x w'
  | 0, _, _, _, h, _ => h
  | 1, _, _, _, h, _ => h
  | 2, _, _, _, h, _ => h
  | 3, _, _, _, h, _ => h
  | 4, _, _, _, ⟨bb, h1, h2, h3⟩, hb => ⟨bb, h1, heap_keep h2 hb, h3⟩
  | 5, _, _, _, h, _ => h
  | 6, _, _, _, h, _ => h
  | 7, _, _, _, h, _ => h
  | 8, _, _, _, h, _ => h
  | 9, _, _, _, ⟨bb, h1, h2, h3⟩, hb => ⟨bb, h1, heap_keep h2 hb, h3⟩
  | 10, _, _, _, ⟨cb, bb, h1, h2, h3, h4⟩, hb => ⟨cb, bb, h1, heap_keep h2 hb, heap_keep h3 hb, h4⟩
  | 11, _, _, _, ⟨cb, bb, h1, h2, h3, h4⟩, hb => ⟨cb, bb, h1, heap_keep h2 hb, heap_keep h3 hb, h4⟩
  | _ + 12, _, _, _, _, _ => trivial
theorem intOf_intC (k : IntKind) (x : Int) : intOf (.int k x) = x := rfl
theorem meas_stepC {n j : Nat} (h : j < n) : n - (((j + 1 : Nat) : Int)).toNat < n - ((j : Int)).toNat := by omega
theorem ent_firstO (args : Array Value) (w : World) : (callFunc 16 args).run Tryz.prog w = .ok (.enter 16 args) w := by kernel_rfl
set_option maxHeartbeats 16000000 in
theorem open_yes (id pin key : ByteArray) (pu on ru tr ve : Int) (sp sq : ByteArray) (fs : List (Int × Int)) (ao : Option Addr) (cap : Nat) {w : World} {B mb : Nat} {v : Value} {M : Mm} (h : MemAt w B mb v M) (ho : M.off = false) (hl : 32 ≤ M.C.length) (hsz : ∀ c ∈ M.C, c.size = 16) (hside : byteAt (headOf M) 0 = 1 → sideOf M < 16)
    (hi : id.size ≤ maxLen) (hp : pin.size ≤ maxLen) (hr : FRow w ao fs) (hn : FNums fs) (hfl : (fs.length : Int) ≤ 9000000000000) (hE : planCE id pin key pu on ru tr ve sp sq fs = 0) :
    Calls Tryz.prog 5 #[.agg #[.string id, .string pin, .string key, .int .i64 pu, .int .i64 on, .int .i64 ru, .int .i64 tr, .int .i64 ve, .string sp, .string sq, .slice ao fs.length cap], .iface 28 (.pointer (some ⟨mb, 0, none⟩))] w fun e w' => ∃ cb bb, e = .returned (.tuple #[.pointer (some ⟨cb, 0, none⟩), .int .i64 0]) ∧ CdAt w' B cb bb mb v (openC (firstK pin key pu on ru tr ve) M (roomR fs) sp sq) ∧ Chg (memF mb v) w w' ∧ w.heap.size ≤ cb ∧ w.heap.size ≤ bb := by
  obtain ⟨D, hD⟩ : ∃ D, D = openC (firstK pin key pu on ru tr ve) M (roomR fs) sp sq := ⟨_, rfl⟩; rw [← hD]; have HD := hide hD; clear hD; obtain ⟨W1, hW1⟩ : ∃ W1, W1 = w.alloc (.cells #[.string id, .string pin, .string key, .int .i64 pu, .int .i64 on, .int .i64 ru, .int .i64 tr, .int .i64 ve, .string sp, .string sq, .slice ao fs.length cap] 26) := ⟨_, rfl⟩
  have hb1 : Below w.heap.size w W1 := by rw [hW1]; exact (Below.refl _ _).alloc (Nat.le_refl _) _
  have hX : W1.heap[w.heap.size]? = some (.cells #[.string id, .string pin, .string key, .int .i64 pu, .int .i64 on, .int .i64 ru, .int .i64 tr, .int .i64 ve, .string sp, .string sq, .slice ao fs.length cap] 26) := by rw [hW1]; exact heap_alloc_new _ _
  obtain ⟨g, hg⟩ : ∃ g, g = w.heap.size := ⟨_, rfl⟩; rw [← hg] at hX
  have hcN : ∀ W : World, Below W1.heap.size W1 W → W.cell? ⟨g, 0, none⟩ = some (.string id) ∧ W.cell? ⟨g, 1, none⟩ = some (.string pin) ∧ W.cell? ⟨g, 2, none⟩ = some (.string key) ∧ W.cell? ⟨g, 3, none⟩ = some (.int .i64 pu) ∧ W.cell? ⟨g, 4, none⟩ = some (.int .i64 on) ∧ W.cell? ⟨g, 5, none⟩ = some (.int .i64 ru) ∧ W.cell? ⟨g, 6, none⟩ = some (.int .i64 tr) ∧ W.cell? ⟨g, 7, none⟩ = some (.int .i64 ve) ∧ W.cell? ⟨g, 8, none⟩ = some (.string sp) ∧ W.cell? ⟨g, 9, none⟩ = some (.string sq) ∧ W.cell? ⟨g, 10, none⟩ = some (.slice ao fs.length cap) := fun W hb => by
    have hW := (hb.block _ (block_ltR hX)).trans hX
    refine ⟨?_, ?_, ?_, ?_, ?_, ?_, ?_, ?_, ?_, ?_, ?_⟩ <;> simp [World.cell?, hW]
  have N1 := checkPlanC_any id pin key pu on ru tr ve sp sq fs ao cap W1 hi hp (hr.below hb1) hn hfl; rw [hE] at N1; have N2 : Hid (∀ W, Below W1.heap.size W1 W → Calls Tryz.prog 181 #[.pointer (some ⟨mb, 0, none⟩)] W fun e w' => e = .returned (.int .i64 (M.C.length : Nat)) ∧ w' = W) := hide (fun W hb => mcells_any ((h.below hb1).below hb)); have N3 : Hid (∀ W, Calls Tryz.prog 16 #[.agg #[.string id, .string pin, .string key, .int .i64 pu, .int .i64 on, .int .i64 ru, .int .i64 tr, .int .i64 ve, .string sp, .string sq, .slice ao fs.length cap]] W fun e w' => e = .returned (.agg #[.int .i64 0, .int .i64 0, .int .i64 0, .int .i64 0, .int .i64 tr, .int .i64 0, .bool false, .bool false, .int .i64 pu, .int .i64 on, .int .i64 ru, .int .i64 ve, .string key, .string pin]) ∧ Below W.heap.size W w') := hide (fun W => first_any id pin key pu on ru tr ve sp sq ao fs.length cap W); have hml := h.lt
  have hmr : ∀ q, v.ownBlock = some q → q < w.heap.size := fun q e => (h.row.lt q e).2
  have HM : Hid (∀ W, Below w.heap.size w W → MemAt W B mb v M) := hide (fun W hb => h.below hb); have HR : Hid (∀ W, Below w.heap.size w W → FRow W ao fs) := hide (fun W hb => hr.below hb)
  have hli : ¬ ((M.C.length : Nat) : Int) < 32 := by omega
  have HW1 := hide hW1; have HB1 := hide hb1; have HG := hide hg; have HCN := hide hcN; have HN1 := hide N1; have HML := hide hml; have HMR := hide hmr; have HO := hide ho; have HL : Hid (9 ≤ M.C.length) := hide (by omega); have HSZ := hide hsz; have HSD := hide hside; have HFL := hide hfl; clear hW1 hb1 hX hg hcN N1 h ho hl hsz hi hp hr hn hfl hE hml hmr hside
  go_enter Tryz.func5, Tryz.ntmps5
  go_upto_region 1 with fail
  rw [← unhide HW1, ← unhide HG]; obtain ⟨a0, a1, a2, a3, a4, a5, a6, a7, a8, a9, a10⟩ := unhide HCN W1 (Below.refl _ _)
  go_wp2_with fail
  refine (unhide HN1).mono ?_; rintro r y1 ⟨rfl, hy1⟩; have HY1 := hide hy1; clear hy1 a0 a1 a2 a3 a4 a5 a6 a7 a8 a9 a10 HN1
  go_wp2_with fail
  refine (unhide N2 _ (unhide HY1)).mono ?_; rintro r y2 ⟨rfl, hy⟩; have hy' := hy.symm; subst hy'; clear N2
  go_upto_region 6 with fail
  refine wp_drawnG (by kernel_rfl) 74 (by rfl) (by kernel_rfl) (by kernel_rfl) (opG id pin key pu on ru tr ve sp sq fs ao cap mb g w.heap.size) (Below.refl y1.heap.size y1) ?_ ?_
  · refine ⟨?_, ?_, ?_, ?_, ?_, ?_, ?_, ?_, ?_, ?_, ?_, ?_, trivial⟩
    · intro S ac wx hJ hS hw hoff; have hb := hJ.g; have eT2 : ac.eval (.tmp 2) = .pointer (some ⟨g, 0, none⟩) := (hoff 2 (by kernel_rfl)).trans rfl; have gT2 := evT eT2; obtain ⟨a0, a1, a2, a3, a4, a5, a6, a7, a8, a9, a10⟩ := unhide HCN wx ((unhide HY1).trans (hb.mono (unhide HY1).size)); refine Does.value (.agg #[.string id, .string pin, .string key, .int .i64 pu, .int .i64 on, .int .i64 ru, .int .i64 tr, .int .i64 ve, .string sp, .string sq, .slice ao fs.length cap]) wx ?_ (hJ.val (opG_mono _ _ _ _ _ _ _ _ _ _ _ _ _ _ _ _) hb.size (i := 0) _ (Below.refl _ _) rfl); clear hJ hw hoff; go_simp
    · intro S ac wx hJ hS hw hoff; have hb := hJ.g; have eT24 : ac.eval (.tmp 24) = .agg #[.string id, .string pin, .string key, .int .i64 pu, .int .i64 on, .int .i64 ru, .int .i64 tr, .int .i64 ve, .string sp, .string sq, .slice ao fs.length cap] := hJ.p 0 (hw 0 (by kernel_rfl)); have gT24 := evT eT24; refine does_call1 16 (.tmp 24) _ rfl _ eT24 ent_firstO (unhide N3 wx) ?_; rintro e wy ⟨rfl, hy⟩; exact ⟨_, rfl, hJ.val (opG_mono _ _ _ _ _ _ _ _ _ _ _ _ _ _ _ _) hb.size (i := 1) _ hy rfl⟩
    · intro S ac wx hJ hS hw hoff; have hb := hJ.g; have eT1 : ac.eval (.tmp 1) = .iface 28 (.pointer (some ⟨mb, 0, none⟩)) := (hoff 1 (by kernel_rfl)).trans rfl; have gT1 := evT eT1; refine Does.value (.iface 28 (.pointer (some ⟨mb, 0, none⟩))) wx ?_ (hJ.val (opG_mono _ _ _ _ _ _ _ _ _ _ _ _ _ _ _ _) hb.size (i := 2) _ (Below.refl _ _) rfl); clear hJ hw hoff; go_simp
    · intro S ac wx hJ hS hw hoff; have hb := hJ.g; have eT26 : ac.eval (.tmp 26) = .iface 28 (.pointer (some ⟨mb, 0, none⟩)) := hJ.p 2 (hw 2 (by kernel_rfl)); have gT26 := evT eT26; refine Does.value (.agg #[.iface 28 (.pointer (some ⟨mb, 0, none⟩)), .string ⟨#[]⟩, .string ⟨#[]⟩, .string ⟨#[]⟩, .string ⟨#[]⟩, .int .i64 0, .bool false]) wx ?_ (hJ.val (opG_mono _ _ _ _ _ _ _ _ _ _ _ _ _ _ _ _) hb.size (i := 3) _ (Below.refl _ _) rfl); clear hJ hw hoff; go_simp
    · intro S ac wx hJ hS hw hoff; have hb := hJ.g; have eT27 : ac.eval (.tmp 27) = .agg #[.iface 28 (.pointer (some ⟨mb, 0, none⟩)), .string ⟨#[]⟩, .string ⟨#[]⟩, .string ⟨#[]⟩, .string ⟨#[]⟩, .int .i64 0, .bool false] := hJ.p 3 (hw 3 (by kernel_rfl)); have gT27 := evT eT27; refine Does.value (.pointer (some ⟨wx.heap.size, 0, none⟩)) (wx.alloc (.cells #[.iface 28 (.pointer (some ⟨mb, 0, none⟩)), .string ⟨#[]⟩, .string ⟨#[]⟩, .string ⟨#[]⟩, .string ⟨#[]⟩, .int .i64 0, .bool false] 66)) ?_ (hJ.val (opG_mono _ _ _ _ _ _ _ _ _ _ _ _ _ _ _ _) hb.size (i := 4) _ ((Below.refl _ _).alloc (Nat.le_refl _) _) ⟨wx.heap.size, rfl, heap_alloc_new _ _, Nat.le_trans (Nat.le_trans (unhide HB1).size (unhide HY1).size) hb.size⟩); clear hJ hw hoff; go_simp
    · intro S ac wx hJ hS hw hoff; have hb := hJ.g; have eT2 : ac.eval (.tmp 2) = .pointer (some ⟨g, 0, none⟩) := (hoff 2 (by kernel_rfl)).trans rfl; have gT2 := evT eT2; refine Does.value (.pointer (some ⟨g, 6, none⟩)) wx ?_ (hJ.val (opG_mono _ _ _ _ _ _ _ _ _ _ _ _ _ _ _ _) hb.size (i := 5) _ (Below.refl _ _) rfl); clear hJ hw hoff; go_simp
    · intro S ac wx hJ hS hw hoff; have hb := hJ.g; have eT29 : ac.eval (.tmp 29) = .pointer (some ⟨g, 6, none⟩) := hJ.p 5 (hw 5 (by kernel_rfl)); have gT29 := evT eT29; obtain ⟨a0, a1, a2, a3, a4, a5, a6, a7, a8, a9, a10⟩ := unhide HCN wx ((unhide HY1).trans (hb.mono (unhide HY1).size)); refine Does.value (.int .i64 tr) wx ?_ (hJ.val (opG_mono _ _ _ _ _ _ _ _ _ _ _ _ _ _ _ _) hb.size (i := 6) _ (Below.refl _ _) rfl); clear hJ hw hoff; go_simp
    · intro S ac wx hJ hS hw hoff; have hb := hJ.g; have eT2 : ac.eval (.tmp 2) = .pointer (some ⟨g, 0, none⟩) := (hoff 2 (by kernel_rfl)).trans rfl; have gT2 := evT eT2; refine Does.value (.pointer (some ⟨g, 8, none⟩)) wx ?_ (hJ.val (opG_mono _ _ _ _ _ _ _ _ _ _ _ _ _ _ _ _) hb.size (i := 7) _ (Below.refl _ _) rfl); clear hJ hw hoff; go_simp
    · intro S ac wx hJ hS hw hoff; have hb := hJ.g; have eT31 : ac.eval (.tmp 31) = .pointer (some ⟨g, 8, none⟩) := hJ.p 7 (hw 7 (by kernel_rfl)); have gT31 := evT eT31; obtain ⟨a0, a1, a2, a3, a4, a5, a6, a7, a8, a9, a10⟩ := unhide HCN wx ((unhide HY1).trans (hb.mono (unhide HY1).size)); refine Does.value (.agg #[.string sp, .string sq]) wx ?_ (hJ.val (opG_mono _ _ _ _ _ _ _ _ _ _ _ _ _ _ _ _) hb.size (i := 8) _ (Below.refl _ _) rfl); clear hJ hw hoff; go_simp
    · intro S ac wx hJ hS hw hoff; have hb := hJ.g; have eT25 : ac.eval (.tmp 25) = .agg #[.int .i64 0, .int .i64 0, .int .i64 0, .int .i64 0, .int .i64 tr, .int .i64 0, .bool false, .bool false, .int .i64 pu, .int .i64 on, .int .i64 ru, .int .i64 ve, .string key, .string pin] := hJ.p 1 (hw 1 (by kernel_rfl)); obtain ⟨bb, eT28, hbb, lbb⟩ : ∃ bb, ac.eval (.tmp 28) = .pointer (some ⟨bb, 0, none⟩) ∧ wx.heap[bb]? = some (.cells #[.iface 28 (.pointer (some ⟨mb, 0, none⟩)), .string ⟨#[]⟩, .string ⟨#[]⟩, .string ⟨#[]⟩, .string ⟨#[]⟩, .int .i64 0, .bool false] 66) ∧ w.heap.size ≤ bb := hJ.p 4 (hw 4 (by kernel_rfl)); have eT30 : ac.eval (.tmp 30) = .int .i64 tr := hJ.p 6 (hw 6 (by kernel_rfl)); have eT32 : ac.eval (.tmp 32) = .agg #[.string sp, .string sq] := hJ.p 8 (hw 8 (by kernel_rfl)); have gT25 := evT eT25; have gT28 := evT eT28; have gT30 := evT eT30; have gT32 := evT eT32; refine Does.value (.agg #[.int .i64 0, .int .i64 0, .int .i64 0, .int .i64 0, .int .i64 tr, .int .i64 0, .bool false, .bool false, .int .i64 pu, .int .i64 on, .int .i64 ru, .int .i64 ve, .string key, .string pin, .pointer (some ⟨bb, 0, none⟩), .int .i64 tr, .int .i64 0, .string sp, .string sq, .int .i64 0, .int .i64 0, .int .i64 0, .int .i64 0, .bool false, .int .i64 0, .int .i64 0, .string ⟨#[]⟩, .string ⟨#[]⟩, .string ⟨#[]⟩]) wx ?_ (hJ.val (opG_mono _ _ _ _ _ _ _ _ _ _ _ _ _ _ _ _) hb.size (i := 9) _ (Below.refl _ _) ⟨bb, rfl, hbb, lbb⟩); clear hJ hw hoff; go_simp
    · intro S ac wx hJ hS hw hoff; have hb := hJ.g; obtain ⟨bb, eT33, hbb, lbb⟩ : ∃ bb, ac.eval (.tmp 33) = .agg #[.int .i64 0, .int .i64 0, .int .i64 0, .int .i64 0, .int .i64 tr, .int .i64 0, .bool false, .bool false, .int .i64 pu, .int .i64 on, .int .i64 ru, .int .i64 ve, .string key, .string pin, .pointer (some ⟨bb, 0, none⟩), .int .i64 tr, .int .i64 0, .string sp, .string sq, .int .i64 0, .int .i64 0, .int .i64 0, .int .i64 0, .bool false, .int .i64 0, .int .i64 0, .string ⟨#[]⟩, .string ⟨#[]⟩, .string ⟨#[]⟩] ∧ wx.heap[bb]? = some (.cells #[.iface 28 (.pointer (some ⟨mb, 0, none⟩)), .string ⟨#[]⟩, .string ⟨#[]⟩, .string ⟨#[]⟩, .string ⟨#[]⟩, .int .i64 0, .bool false] 66) ∧ w.heap.size ≤ bb := hJ.p 9 (hw 9 (by kernel_rfl)); have gT33 := evT eT33; refine Does.value (.pointer (some ⟨wx.heap.size, 0, none⟩)) (wx.alloc (.cells #[.int .i64 0, .int .i64 0, .int .i64 0, .int .i64 0, .int .i64 tr, .int .i64 0, .bool false, .bool false, .int .i64 pu, .int .i64 on, .int .i64 ru, .int .i64 ve, .string key, .string pin, .pointer (some ⟨bb, 0, none⟩), .int .i64 tr, .int .i64 0, .string sp, .string sq, .int .i64 0, .int .i64 0, .int .i64 0, .int .i64 0, .bool false, .int .i64 0, .int .i64 0, .string ⟨#[]⟩, .string ⟨#[]⟩, .string ⟨#[]⟩] 70)) ?_ (hJ.val (opG_mono _ _ _ _ _ _ _ _ _ _ _ _ _ _ _ _) hb.size (i := 10) _ ((Below.refl _ _).alloc (Nat.le_refl _) _) ⟨wx.heap.size, bb, rfl, heap_alloc_new _ _, heap_keep hbb ((Below.refl _ _).alloc (Nat.le_refl _) _), Nat.le_trans (Nat.le_trans (unhide HB1).size (unhide HY1).size) hb.size, lbb, fun e => by have := block_ltR hbb; omega⟩); clear hJ hw hoff; go_simp
    · intro S ac wx hJ hS hw hoff; have hb := hJ.g; obtain ⟨cb, bb, eT34, hrest⟩ : ∃ cb bb, ac.eval (.tmp 34) = .pointer (some ⟨cb, 0, none⟩) ∧ wx.heap[cb]? = some (.cells #[.int .i64 0, .int .i64 0, .int .i64 0, .int .i64 0, .int .i64 tr, .int .i64 0, .bool false, .bool false, .int .i64 pu, .int .i64 on, .int .i64 ru, .int .i64 ve, .string key, .string pin, .pointer (some ⟨bb, 0, none⟩), .int .i64 tr, .int .i64 0, .string sp, .string sq, .int .i64 0, .int .i64 0, .int .i64 0, .int .i64 0, .bool false, .int .i64 0, .int .i64 0, .string ⟨#[]⟩, .string ⟨#[]⟩, .string ⟨#[]⟩] 70) ∧ wx.heap[bb]? = some (.cells #[.iface 28 (.pointer (some ⟨mb, 0, none⟩)), .string ⟨#[]⟩, .string ⟨#[]⟩, .string ⟨#[]⟩, .string ⟨#[]⟩, .int .i64 0, .bool false] 66) ∧ w.heap.size ≤ cb ∧ w.heap.size ≤ bb ∧ cb ≠ bb := hJ.p 10 (hw 10 (by kernel_rfl)); have gT34 := evT eT34; refine Does.value (.pointer (some ⟨cb, 0, none⟩)) wx ?_ (hJ.val (opG_mono _ _ _ _ _ _ _ _ _ _ _ _ _ _ _ _) hb.size (i := 11) _ (Below.refl _ _) ⟨cb, bb, rfl, hrest⟩); clear hJ hw hoff; go_simp
  · intro ac wx S hdf hsz hoff hall hJ; have hb := hJ.g; obtain ⟨cb, bb, hh7, hcbx, hbbx, lcb, lbb, hne⟩ : ∃ cb bb, ac.tmps.getD 7 undef = .pointer (some ⟨cb, 0, none⟩) ∧ wx.heap[cb]? = some (.cells #[.int .i64 0, .int .i64 0, .int .i64 0, .int .i64 0, .int .i64 tr, .int .i64 0, .bool false, .bool false, .int .i64 pu, .int .i64 on, .int .i64 ru, .int .i64 ve, .string key, .string pin, .pointer (some ⟨bb, 0, none⟩), .int .i64 tr, .int .i64 0, .string sp, .string sq, .int .i64 0, .int .i64 0, .int .i64 0, .int .i64 0, .bool false, .int .i64 0, .int .i64 0, .string ⟨#[]⟩, .string ⟨#[]⟩, .string ⟨#[]⟩] 70) ∧ wx.heap[bb]? = some (.cells #[.iface 28 (.pointer (some ⟨mb, 0, none⟩)), .string ⟨#[]⟩, .string ⟨#[]⟩, .string ⟨#[]⟩, .string ⟨#[]⟩, .int .i64 0, .bool false] 66) ∧ w.heap.size ≤ cb ∧ w.heap.size ≤ bb ∧ cb ≠ bb := hJ.p 11 (hall 11 (by decide)); have hmix := mix_eq [false, false, false, false, false, false, false, true, false, false, false, false, false, false, false, false, false, false, false, false, false, false, false, false, true, true, true, true, true, true, true, true, true, true, true, false, false, false, false, false, false, false, false, false, false, false, false, false, false, false, false, false, false, false, false, false, false, false, false, false, false, false, false, false, false, false, false, false, false, false, false, false, false, false] rfl rfl hsz hdf (by kernel_rfl) hoff; clear hoff hall hsz hdf hJ
    simp only [mixL, Nat.reduceAdd, hh7] at hmix
    rw [hmix]; clear hmix hh7; generalize ac.tmps.getD 24 undef = u24; generalize ac.tmps.getD 25 undef = u25; generalize ac.tmps.getD 26 undef = u26; generalize ac.tmps.getD 27 undef = u27; generalize ac.tmps.getD 28 undef = u28; generalize ac.tmps.getD 29 undef = u29; generalize ac.tmps.getD 30 undef = u30; generalize ac.tmps.getD 31 undef = u31; generalize ac.tmps.getD 32 undef = u32; generalize ac.tmps.getD 33 undef = u33; generalize ac.tmps.getD 34 undef = u34; have HBW := hide ((unhide HB1).trans (((unhide HY1).trans (hb.mono (unhide HY1).size)).mono (unhide HB1).size))
    have hcd : CdAt wx B cb bb mb v (bareC (firstK pin key pu on ru tr ve) M tr 0 sp sq) := by
      have q1 := unhide HML; have q2 := unhide HMR; refine ⟨hcbx, ⟨?_, unhide HM _ (unhide HBW), by omega, fun e => by have := q2 _ e; omega⟩, hne, by omega, fun e => by have := q2 _ e; omega⟩
      show wx.heap[bb]? = some (.cells #[.iface 28 (.pointer (some ⟨mb, 0, none⟩)), .string ⟨#[]⟩, .string ⟨#[]⟩, .string ⟨#[]⟩, .string ⟨#[]⟩, .int .i64 ((0 : Nat) : Int), .bool M.off] 66)
      rw [unhide HO]; exact hbbx
    obtain ⟨_, _, _, _, _, _, _, _, _, _, a10⟩ := unhide HCN wx ((unhide HY1).trans (hb.mono (unhide HY1).size)); have HCD := hide hcd; have hwl : w.heap.size ≤ cb ∧ w.heap.size ≤ bb := ⟨lcb, lbb⟩; have HWL := hide hwl; clear hb hcbx hbbx lcb lbb hne hcd hwl HY1 HCN HB1 N3 hli
    go_wp2
    go_loopw [9, 38] (fun _ s38 wr => ∃ j : Nat, j ≤ fs.length ∧ s38 = .int .i64 (j : Int) ∧ CdAt wr B cb bb mb v (bareC (firstK pin key pu on ru tr ve) M tr (roomR (fs.take j)) sp sq) ∧ Below w.heap.size w wr) (fun _ s38 _ => fs.length - (intOf s38).toNat)
    case atStart => exact ⟨0, Nat.zero_le _, rfl, unhide HCD, unhide HBW⟩
    case round =>
      clear a10 HCD HBW; obtain ⟨j, hj, rfl, hC, hbw⟩ := hrel
      by_cases hjl : j < fs.length
      · have hjl2 : (j : Int) < (fs.length : Int) := by omega
        have hwj : wrap64 ((j : Int) + 1) = ((j + 1 : Nat) : Int) := by have := unhide HFL; unfold wrap64; omega
        have hst := roomR_step fs j hjl
        rcases unhide HR wr hbw with hnil | ⟨rb, off, hao, hrb, hrc⟩
        · rw [hnil] at hjl; simp at hjl
        subst hao; obtain ⟨t0, t1⟩ := hrc j hjl; generalize (fs.getD j (0, 0)).1 = tg at *; generalize (fs.getD j (0, 0)).2 = ln at *; obtain ⟨rm, hrm⟩ : ∃ rm, rm = roomR (fs.take j) := ⟨_, rfl⟩; rw [← hrm] at hC hst; obtain ⟨Y, hY⟩ : ∃ Y, Y = wr.alloc (.cells #[.int .i64 tg, .int .i64 ln] 72) := ⟨_, rfl⟩; obtain ⟨go, hgo⟩ : ∃ go, go = wr.heap.size := ⟨_, rfl⟩
        have hYb : Below wr.heap.size wr Y := by rw [hY]; exact (Below.refl _ _).alloc (Nat.le_refl _) _
        have hYo : Y.heap[go]? = some (.cells #[.int .i64 tg, .int .i64 ln] 72) := by rw [hY, hgo]; exact heap_alloc_new _ _
        have o1 : Y.cell? ⟨go, 1, none⟩ = some (.int .i64 ln) := by simp [World.cell?, hYo]
        have hCY := hC.below hYb; have r1 : Y.cell? ⟨cb, 16, none⟩ = some (.int .i64 rm) := hCY.rm; have f1 := hCY.fro 16
        have hwrp : IntKind.i64.wrap (rm + ln) = wrap64 (rm + ln) := by rw [IntKind.wrap_i64]; unfold wrap64; rfl
        rw [hwrp] at hst
        have HN : Hid (∀ W, W = (Y.setCell ⟨cb, 16, none⟩ (.int .i64 (wrap64 (rm + ln)))).drew → CdAt W B cb bb mb v (bareC (firstK pin key pu on ru tr ve) M tr (roomR (fs.take (j + 1))) sp sq) ∧ Below w.heap.size w W) := hide (by
          rintro W rfl; rw [hst]
          exact ⟨(hCY.setRoom _).below (Below.refl _ _).drew, ((hbw.trans (hYb.mono hbw.size)).setCell (p := ⟨cb, 16, none⟩) (unhide HWL).1 _).drew⟩)
        have HY := hide hY; have HGO := hide hgo; have HJ := hide hjl; clear hwrp hY hgo hYb hYo hCY hC hbw hst hrm hrc hrb hj
        go_upto_region 10 with fail
        rw [← unhide HY, ← unhide HGO]; clear t0 t1 HY; refine wp_drawnS (by kernel_rfl) 74 (by rfl) (by kernel_rfl) (by kernel_rfl) 9 (vals [.pointer (some ⟨cb, 0, none⟩), .pointer (some ⟨cb, 0, none⟩), .pointer (some ⟨cb, 16, none⟩), .int .i64 rm, .pointer (some ⟨go, 1, none⟩), .int .i64 ln, .int .i64 (IntKind.i64.wrap (rm + ln)), .pointer (some ⟨cb, 0, none⟩), .pointer (some ⟨cb, 16, none⟩)]) (Y.drew.setCell ⟨cb, 16, none⟩ (.int .i64 (IntKind.i64.wrap (rm + ln)))) ?_ ?_
        · refine ⟨?_, ?_, ?_, ?_, ?_, ?_, ?_, ?_, ?_, ?_, trivial⟩
          · intro S ac wx hJ hS hw hoff; obtain ⟨_, hwx⟩ := hJ.same (i := 0) (by decide) hS; subst hwx; have eT7 : ac.eval (.tmp 7) = .pointer (some ⟨cb, 0, none⟩) := (hoff 7 (by kernel_rfl)).trans rfl; have gT7 := evT eT7; refine Does.value (.pointer (some ⟨cb, 0, none⟩)) _ ?_ (hJ.val (i := 0) (by decide) hS hw _ rfl); clear hJ hw hoff; go_simp
          · intro S ac wx hJ hS hw hoff; obtain ⟨_, hwx⟩ := hJ.same (i := 1) (by decide) hS; subst hwx; have eT42 : ac.eval (.tmp 42) = .pointer (some ⟨cb, 0, none⟩) := hJ.v 0 (by decide) (hw 0 (by kernel_rfl)); have gT42 := evT eT42; refine Does.value (.pointer (some ⟨cb, 0, none⟩)) _ ?_ (hJ.val (i := 1) (by decide) hS hw _ rfl); clear hJ hw hoff; go_simp
          · intro S ac wx hJ hS hw hoff; obtain ⟨_, hwx⟩ := hJ.same (i := 2) (by decide) hS; subst hwx; have eT43 : ac.eval (.tmp 43) = .pointer (some ⟨cb, 0, none⟩) := hJ.v 1 (by decide) (hw 1 (by kernel_rfl)); have gT43 := evT eT43; refine Does.value (.pointer (some ⟨cb, 16, none⟩)) _ ?_ (hJ.val (i := 2) (by decide) hS hw _ rfl); clear hJ hw hoff; go_simp
          · intro S ac wx hJ hS hw hoff; obtain ⟨_, hwx⟩ := hJ.same (i := 3) (by decide) hS; subst hwx; have eT44 : ac.eval (.tmp 44) = .pointer (some ⟨cb, 16, none⟩) := hJ.v 2 (by decide) (hw 2 (by kernel_rfl)); have gT44 := evT eT44; refine Does.value (.int .i64 rm) _ ?_ (hJ.val (i := 3) (by decide) hS hw _ rfl); clear hJ hw hoff; go_simp
          · intro S ac wx hJ hS hw hoff; obtain ⟨_, hwx⟩ := hJ.same (i := 4) (by decide) hS; subst hwx; have eT9 : ac.eval (.tmp 9) = .pointer (some ⟨go, 0, none⟩) := (hoff 9 (by kernel_rfl)).trans rfl; have gT9 := evT eT9; refine Does.value (.pointer (some ⟨go, 1, none⟩)) _ ?_ (hJ.val (i := 4) (by decide) hS hw _ rfl); clear hJ hw hoff; go_simp
          · intro S ac wx hJ hS hw hoff; obtain ⟨_, hwx⟩ := hJ.same (i := 5) (by decide) hS; subst hwx; have eT46 : ac.eval (.tmp 46) = .pointer (some ⟨go, 1, none⟩) := hJ.v 4 (by decide) (hw 4 (by kernel_rfl)); have gT46 := evT eT46; refine Does.value (.int .i64 ln) _ ?_ (hJ.val (i := 5) (by decide) hS hw _ rfl); clear hJ hw hoff; go_simp
          · intro S ac wx hJ hS hw hoff; obtain ⟨_, hwx⟩ := hJ.same (i := 6) (by decide) hS; subst hwx; have eT45 : ac.eval (.tmp 45) = .int .i64 rm := hJ.v 3 (by decide) (hw 3 (by kernel_rfl)); have eT47 : ac.eval (.tmp 47) = .int .i64 ln := hJ.v 5 (by decide) (hw 5 (by kernel_rfl)); have gT45 := evT eT45; have gT47 := evT eT47; refine Does.value (.int .i64 (IntKind.i64.wrap (rm + ln))) _ ?_ (hJ.val (i := 6) (by decide) hS hw _ rfl); clear hJ hw hoff; go_simp
          · intro S ac wx hJ hS hw hoff; obtain ⟨_, hwx⟩ := hJ.same (i := 7) (by decide) hS; subst hwx; have eT42 : ac.eval (.tmp 42) = .pointer (some ⟨cb, 0, none⟩) := hJ.v 0 (by decide) (hw 0 (by kernel_rfl)); have gT42 := evT eT42; refine Does.value (.pointer (some ⟨cb, 0, none⟩)) _ ?_ (hJ.val (i := 7) (by decide) hS hw _ rfl); clear hJ hw hoff; go_simp
          · intro S ac wx hJ hS hw hoff; obtain ⟨_, hwx⟩ := hJ.same (i := 8) (by decide) hS; subst hwx; have eT49 : ac.eval (.tmp 49) = .pointer (some ⟨cb, 0, none⟩) := hJ.v 7 (by decide) (hw 7 (by kernel_rfl)); have gT49 := evT eT49; refine Does.value (.pointer (some ⟨cb, 16, none⟩)) _ ?_ (hJ.val (i := 8) (by decide) hS hw _ rfl); clear hJ hw hoff; go_simp
          · intro S ac wx hJ hS hw hoff; have hwx := hJ.s.o hS; subst hwx; have eT48 : ac.eval (.tmp 48) = .int .i64 (IntKind.i64.wrap (rm + ln)) := hJ.v 6 (by decide) (hw 6 (by kernel_rfl)); have eT50 : ac.eval (.tmp 50) = .pointer (some ⟨cb, 16, none⟩) := hJ.v 8 (by decide) (hw 8 (by kernel_rfl)); have gT48 := evT eT48; have gT50 := evT eT50
            have hd : ∀ k, k < 9 → k = 0 ∨ k = 1 ∨ k = 2 ∨ k = 3 ∨ k = 4 ∨ k = 5 ∨ k = 6 ∨ k = 7 ∨ k = 8 := fun k hk => by omega
            have hall : ∀ k, k < 9 → S k = true := fun k hk => by
              rcases hd k hk with rfl | rfl | rfl | rfl | rfl | rfl | rfl | rfl | rfl
              · exact hJ.c 1 0 (hJ.c 2 1 (hJ.c 3 2 (hJ.c 6 3 (hw 6 (by kernel_rfl)) (by kernel_rfl)) (by kernel_rfl)) (by kernel_rfl)) (by kernel_rfl)
              · exact hJ.c 2 1 (hJ.c 3 2 (hJ.c 6 3 (hw 6 (by kernel_rfl)) (by kernel_rfl)) (by kernel_rfl)) (by kernel_rfl)
              · exact hJ.c 3 2 (hJ.c 6 3 (hw 6 (by kernel_rfl)) (by kernel_rfl)) (by kernel_rfl)
              · exact hJ.c 6 3 (hw 6 (by kernel_rfl)) (by kernel_rfl)
              · exact hJ.c 5 4 (hJ.c 6 5 (hw 6 (by kernel_rfl)) (by kernel_rfl)) (by kernel_rfl)
              · exact hJ.c 6 5 (hw 6 (by kernel_rfl)) (by kernel_rfl)
              · exact hw 6 (by kernel_rfl)
              · exact hJ.c 8 7 (hw 8 (by kernel_rfl)) (by kernel_rfl)
              · exact hw 8 (by kernel_rfl)
            refine Does.skip _ ?_ (hJ.last hw hall _); clear hJ hw hoff hall hd; go_simp
        · intro ac wx S hdf hsz hoff hall hJ; obtain ⟨hwx, _⟩ := hJ.t (hall 9 (by decide)); subst hwx; have hh42 : ac.tmps.getD 42 undef = .pointer (some ⟨cb, 0, none⟩) := hJ.v 0 (by decide) (hall 0 (by decide)); have hh43 : ac.tmps.getD 43 undef = .pointer (some ⟨cb, 0, none⟩) := hJ.v 1 (by decide) (hall 1 (by decide)); have hh44 : ac.tmps.getD 44 undef = .pointer (some ⟨cb, 16, none⟩) := hJ.v 2 (by decide) (hall 2 (by decide)); have hh45 : ac.tmps.getD 45 undef = .int .i64 rm := hJ.v 3 (by decide) (hall 3 (by decide)); have hh46 : ac.tmps.getD 46 undef = .pointer (some ⟨go, 1, none⟩) := hJ.v 4 (by decide) (hall 4 (by decide)); have hh47 : ac.tmps.getD 47 undef = .int .i64 ln := hJ.v 5 (by decide) (hall 5 (by decide)); have hh48 : ac.tmps.getD 48 undef = .int .i64 (IntKind.i64.wrap (rm + ln)) := hJ.v 6 (by decide) (hall 6 (by decide)); have hh49 : ac.tmps.getD 49 undef = .pointer (some ⟨cb, 0, none⟩) := hJ.v 7 (by decide) (hall 7 (by decide)); have hh50 : ac.tmps.getD 50 undef = .pointer (some ⟨cb, 16, none⟩) := hJ.v 8 (by decide) (hall 8 (by decide)); have hmix := mix_eq [false, false, false, false, false, false, false, false, false, false, false, false, false, false, false, false, false, false, false, false, false, false, false, false, false, false, false, false, false, false, false, false, false, false, false, false, false, false, false, false, false, false, true, true, true, true, true, true, true, true, true, false, false, false, false, false, false, false, false, false, false, false, false, false, false, false, false, false, false, false, false, false, false, false] rfl rfl hsz hdf (by kernel_rfl) hoff; clear hoff hall hsz hdf hJ
          simp only [mixL, Nat.reduceAdd, hh42, hh43, hh44, hh45, hh46, hh47, hh48, hh49, hh50] at hmix
          rw [hmix]; clear hmix hh42 hh43 hh44 hh45 hh46 hh47 hh48 hh49 hh50
          go_wp2
          go_roundw
          case rel =>
            obtain ⟨q1, q2⟩ := unhide HN _ rfl; exact ⟨j + 1, by have := unhide HJ; omega, by rw [hwj], q1, q2⟩
          case measure =>
            rw [intOf_intC, intOf_intC, hwj]; exact meas_stepC (unhide HJ)
      · have hjl2 : ¬ (j : Int) < (fs.length : Int) := by omega
        rw [List.take_of_length_le (by omega)] at hC; have b14 := hC.at.1; have hcl := hC.lt
        by_cases hh : byteAt (headOf M) 0 = 1
        · have hop : openC (firstK pin key pu on ru tr ve) M (roomR fs) sp sq = ⟨readK (foundC M), foundC M, sideOf M, M, tr, roomR fs, sp, sq, noPay⟩ := by
            unfold openC openK
            rw [if_pos hh, if_pos hh, if_pos hh]
            rfl
          have hD := (unhide HD).trans hop; subst hD; have N4 : Hid (Calls Tryz.prog 17 #[.pointer (some ⟨bb, 0, none⟩)] wr fun e w' => e = .returned (.tuple #[.agg #[.string (foundC M 0), .string (foundC M 1), .string (foundC M 2), .string (foundC M 3)], .bool true]) ∧ KtoAt w' B bb mb v M (foundC M) (sideOf M : Int) ∧ Chg (ktoF bb mb v) wr w') := hide (kopen_yes hC.kto (unhide HO) (unhide HL) (unhide HSZ) hh (unhide HSD hh)); have N5 := hide (fun W => readState_any (foundC M) (fun i hi => sizeM (unhide HSZ) (foundM (unhide HL) i hi)) W); have HC := hide hC; have HBW := hide hbw; clear hop hC hbw hh hj hjl hcl HD
          go_wp2_with fail
          refine (unhide N4).mono ?_; rintro r y5 ⟨rfl, hk5, hc5⟩; have h5 := (unhide HC).kto' hk5 hc5; have hch : Chg (memF mb v) w y5 := (Chg.of_below (memF mb v) (unhide HBW)).trans hc5 (fun x hx => hx.elim (fun e => .inr (by rw [e]; exact (unhide HWL).2)) (fun e => .inl e)); obtain ⟨Y6, hY6⟩ : ∃ Y6, Y6 = y5.alloc (.cells #[.string (foundC M 0), .string (foundC M 1), .string (foundC M 2), .string (foundC M 3)] 64) := ⟨_, rfl⟩; obtain ⟨g6, hg6⟩ : ∃ g6, g6 = y5.heap.size := ⟨_, rfl⟩
          have hb6 : Below y5.heap.size y5 Y6 := by rw [hY6]; exact (Below.refl _ _).alloc (Nat.le_refl _) _
          have hx6 : Y6.heap[g6]? = some (.cells #[.string (foundC M 0), .string (foundC M 1), .string (foundC M 2), .string (foundC M 3)] 64) := by rw [hY6, hg6]; exact heap_alloc_new _ _
          have q0 : Y6.cell? ⟨g6, 0, none⟩ = some (.string (foundC M 0)) := by simp [World.cell?, hx6]
          have q1 : Y6.cell? ⟨g6, 1, none⟩ = some (.string (foundC M 1)) := by simp [World.cell?, hx6]
          have q2 : Y6.cell? ⟨g6, 2, none⟩ = some (.string (foundC M 2)) := by simp [World.cell?, hx6]
          have q3 : Y6.cell? ⟨g6, 3, none⟩ = some (.string (foundC M 3)) := by simp [World.cell?, hx6]
          have h6 := h5.below hb6; have b6 : Y6.cell? ⟨bb, 6, none⟩ = some (.bool M.off) := h6.kto.cells.2; rw [unhide HO] at b6; have b14' := h6.at.1; have HY6 := hide hY6; have HG6 := hide hg6; have H6 := hide h6; have HCH := hide (hch.trans (Chg.of_below (memF mb v) hb6) (fun x hx => .inl hx)); clear hk5 hc5 h5 hch hb6 hx6 h6 hY6 hg6 b14 N4 HC HBW
          go_upto_region 13 with fail
          rw [← unhide HY6, ← unhide HG6]; clear HY6
          go_wp2_with fail
          refine (unhide N5 _).mono ?_; rintro r y7 ⟨rfl, hb7⟩; have h7 := (unhide H6).below hb7; obtain ⟨e0, e1, e2, e3, e4, e5, e6, e7, e8, e9, e10, e11, e12, e13⟩ := h7.st14; have ff := h7.fro; have f0 := ff 0; have f1 := ff 1; have f2 := ff 2; have f3 := ff 3; have f4 := ff 4; have f5 := ff 5; have f6 := ff 6; have f7 := ff 7; have f8 := ff 8; have f9 := ff 9; have f10 := ff 10; have f11 := ff 11; have f12 := ff 12; have f13 := ff 13; obtain ⟨k1, k2⟩ := h7.setK (readK (foundC M)); have HE := hide (And.intro k1 (((unhide HCH).trans (Chg.of_below (memF mb v) hb7) (fun x hx => .inl hx)).trans k2 (fun x hx => .inr (by rw [hx]; exact (unhide HWL).1)))); obtain ⟨rk, hrk⟩ : ∃ rk, rk = readK (foundC M) := ⟨_, rfl⟩; rw [← hrk] at HE ⊢; have HRK := hide hrk; clear hrk; clear hb7 h7 ff k1 k2 q0 q1 q2 q3 b6 b14' H6 HCH N5
          unfold valK kvL
          go_wp2
          go_ret2
          rw [← unhide HRK]; exact ⟨cb, bb, rfl, (unhide HE).1, (unhide HE).2, (unhide HWL).1, (unhide HWL).2⟩
        · have hop : openC (firstK pin key pu on ru tr ve) M (roomR fs) sp sq = bareC (firstK pin key pu on ru tr ve) M tr (roomR fs) sp sq := by
            unfold openC openK
            rw [if_neg hh, if_neg hh, if_neg hh]
            rfl
          have hD := (unhide HD).trans hop; subst hD; have N4 : Hid (Calls Tryz.prog 17 #[.pointer (some ⟨bb, 0, none⟩)] wr fun e w' => e = .returned (.tuple #[.agg #[.string ⟨#[]⟩, .string ⟨#[]⟩, .string ⟨#[]⟩, .string ⟨#[]⟩], .bool false]) ∧ KtoAt w' B bb mb v M (fun _ => ⟨#[]⟩) ((0 : Nat) : Int) ∧ Chg (ktoF bb mb v) wr w') := hide (kopen_no hC.kto (unhide HO) (unhide HL) (unhide HSZ) hh); have HC := hide hC; have HBW := hide hbw; clear hop hC hbw hh hj hjl hcl HD
          go_wp2_with fail
          refine (unhide N4).mono ?_; rintro r y5 ⟨rfl, hk5, hc5⟩; have h5 := (unhide HC).kto' hk5 hc5; have hch : Chg (memF mb v) w y5 := (Chg.of_below (memF mb v) (unhide HBW)).trans hc5 (fun x hx => hx.elim (fun e => .inr (by rw [e]; exact (unhide HWL).2)) (fun e => .inl e)); obtain ⟨Y6, hY6⟩ : ∃ Y6, Y6 = y5.alloc (.cells #[.string ⟨#[]⟩, .string ⟨#[]⟩, .string ⟨#[]⟩, .string ⟨#[]⟩] 64) := ⟨_, rfl⟩
          have hb6 : Below y5.heap.size y5 Y6 := by rw [hY6]; exact (Below.refl _ _).alloc (Nat.le_refl _) _
          have h6 := h5.below hb6; have b6 : Y6.cell? ⟨bb, 6, none⟩ = some (.bool M.off) := h6.kto.cells.2; rw [unhide HO] at b6; have b14' := h6.at.1; have HY6 := hide hY6; have HE := hide (And.intro h6 (hch.trans (Chg.of_below (memF mb v) hb6) (fun x hx => .inl hx))); clear hk5 hc5 h5 hch hb6 h6 hY6 b14 N4 HC HBW
          go_upto_region 13 with fail
          rw [← unhide HY6]; clear HY6
          go_wp2
          go_ret2
          exact ⟨cb, bb, rfl, (unhide HE).1, (unhide HE).2, (unhide HWL).1, (unhide HWL).2⟩
end Go.Proofs.YtajkbkljonejnaaGreatDoor
