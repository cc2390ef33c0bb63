/- host's Join. -/
import Derived.Test.YtbiipeapcclbkaaDoorHkH
import Derived.Deep.DeepCutAuto
import Derived.Deep.CutBlock
namespace Go.Proofs.YtbiipeapcclbkaaDoor
open Go.RowKit Go.WideMaps Go.Maps
set_option linter.unusedVariables false
set_option linter.unusedSimpArgs false
set_option maxRecDepth 100000

def pinB (s : ByteArray) : Bool := !s.toList.isEmpty && !digitsB s 4 12
def amB (x : Int) : Bool := inB x 0 999999999999
/-- what Join tells -/
def joinE (a : XAccount) (known there : Bool) : Int :=
  if (!digitsB a.id 8 19 || pinB a.pin) = true then 1 else if (!amB a.balance || !amB a.most) = true then 3 else if known = false then 5 else if there = true then 6 else 0
/-- what a Join may touch -/
structure JPost (w w' : World) (m : Nat) : Prop where
  size : w.heap.size ≤ w'.heap.size
  blk : ∀ i, i < w.heap.size → i ≠ m → w'.heap[i]? = w.heap[i]?
  bel : ∀ B w0, B ≤ m → B ≤ w.heap.size → Below B w0 w → Below B w0 w'
theorem JPost.of {w w' : World} {m : Nat} (h : Below w.heap.size w w') : JPost w w' m := ⟨h.size, fun i hi _ => h.block i hi, fun B w0 _ hB hb => hb.trans (h.mono hB)⟩
theorem JPost.grown {w w1 w' : World} {m : Nat} (h : Below w.heap.size w w1) (hg : w1.grownBy w' (some m)) : JPost w w' m :=
  ⟨Nat.le_trans h.size hg.size, fun i hi hne => (hg.block i (Nat.lt_of_lt_of_le hi h.size) (by simpa using hne)).trans (h.block i hi), fun B w0 hm hB hb => (hb.trans (h.mono hB)).grown hg (Nat.le_trans hB h.size) (fun j hj => by cases hj; exact hm)⟩
def accObj (a : XAccount) : Obj := .cells #[.string a.id, .string a.pin, .int .i64 a.balance, .int .i64 a.most, .int .i64 a.version] 27
theorem accCells {w : World} {g : Nat} {a : XAccount} (h : w.heap[g]? = some (accObj a)) : w.cell? ⟨g, 0, none⟩ = some (.string a.id) ∧ w.cell? ⟨g, 1, none⟩ = some (.string a.pin) ∧ w.cell? ⟨g, 2, none⟩ = some (.int .i64 a.balance) ∧ w.cell? ⟨g, 3, none⟩ = some (.int .i64 a.most) ∧ w.cell? ⟨g, 4, none⟩ = some (.int .i64 a.version) := by
  unfold accObj at h
  refine ⟨?_, ?_, ?_, ?_, ?_⟩ <;> simp [World.cell?, h]
theorem mstCells {w : World} {g : Nat} {v : Int} {k : ByteArray} (h : w.heap[g]? = some (.cells #[.int .i64 v, .string k] 52)) : w.cell? ⟨g, 0, none⟩ = some (.int .i64 v) ∧ w.cell? ⟨g, 1, none⟩ = some (.string k) := by
  refine ⟨?_, ?_⟩ <;> simp [World.cell?, h]
theorem ent_newAccount (args : Array Value) (w : World) : (callFunc 16 args).run Tryd.prog w = .ok (.enter 16 args) w := by kernel_rfl
theorem zeroP (u : World) : (zeroValue 60).run Tryd.prog u = .ok (rdA.val none) u := by kernel_rfl
set_option maxHeartbeats 8000000 in
theorem hjoin_any (a : XAccount) (h1 : a.id.size ≤ maxLen) (h2 : a.pin.size ≤ maxLen) (h3 : InX a.version) (w : World) (m : Nat) (gm : Int → Option KV) (km : List Int) (ga : ByteArray → Option (Option Nat)) (ka : List ByteArray)
    (h : HostAt w m gm km ga ka) (hka : ka.length ≤ 1) (hga : ∀ x y, ga x = some y → y ≠ none) :
    Calls Tryd.prog 8 #[.pointer (some ⟨m + 1 + 1 + 1 + 1, 0, none⟩), valAccount a] w fun e w' => e = .returned (.int .i64 (joinE a (gm a.version).isSome (ga a.id).isSome)) ∧ JPost w w' (m + 1 + 1) ∧
      (joinE a (gm a.version).isSome (ga a.id).isSome = 0 → ∃ n, HostAt w' m gm km (updX ga a.id (some (some n))) (addX ka a.id)) ∧ (joinE a (gm a.version).isSome (ga a.id).isSome ≠ 0 → HostAt w' m gm km ga ka) := by
  obtain ⟨W1, hW1⟩ : ∃ W1, W1 = w.alloc (accObj a) := ⟨_, rfl⟩
  have hB1 : Below w.heap.size w W1 := by rw [hW1]; exact (Below.refl _ _).alloc (Nat.le_refl _) _
  have hX1 : W1.heap[w.heap.size]? = some (accObj a) := by rw [hW1]; exact heap_alloc_new _ _
  have hH1 := h.below hB1
  obtain ⟨mv, mk, hmv⟩ : ∃ mv mk, (gm a.version).getD (0, ⟨#[]⟩) = (mv, mk) := ⟨_, _, rfl⟩
  have hlk : (Instr.lookup 45 (.map (some m)) (.int .i64 a.version) true).run Tryd.prog W1.drew = .ok (.tuple #[.agg #[.int .i64 mv, .string mk], .bool (gm a.version).isSome]) W1.drew := by
    have := (hH1.mas.of_block (w' := W1.drew) rfl).lookOk keyInt Tryd.underlying45 cellsOfZM a.version h3
    rw [hmv] at this
    exact this
  have hlk2 : (Instr.lookup 45 (.map (some m)) (.int .i64 a.version) true).run Tryd.prog (W1.alloc (.cells #[.int .i64 0, .string ⟨#[]⟩] 52)).drew = .ok (.tuple #[.agg #[.int .i64 mv, .string mk], .bool (gm a.version).isSome]) (W1.alloc (.cells #[.int .i64 0, .string ⟨#[]⟩] 52)).drew := by
    have hm := hH1.mas.below (w' := (W1.alloc (.cells #[.int .i64 0, .string ⟨#[]⟩] 52)).drew) ((Below.refl _ _).alloc (Nat.le_refl _) _).drew
    have := hm.lookOk keyInt Tryd.underlying45 cellsOfZM a.version h3
    rw [hmv] at this
    exact this
  have HJE : Hid (joinE a (gm a.version).isSome (ga a.id).isSome = if (!digitsB a.id 8 19 || pinB a.pin) = true then 1 else if (!amB a.balance || !amB a.most) = true then 3 else if (gm a.version).isSome = false then 5 else if (ga a.id).isSome = true then 6 else 0) := hide rfl
  obtain ⟨pz, hpz⟩ : ∃ pz, (ga a.id).getD none = pz := ⟨_, rfl⟩
  have HGT : Hid (∀ w', mapA w' (m + 1 + 1) ga ka → (Instr.lookup 47 (.map (some (m + 1 + 1))) (.string a.id) false).run Tryd.prog w' = .ok (ptrV pz) w') := hide (fun w' hm => by
    have := hm.look keyStr Tryd.underlying47 zeroP a.id h1
    rw [hpz] at this
    exact this)
  have HPZ : Hid (pz.isSome = (ga a.id).isSome) := hide (by
    rw [← hpz]
    cases hg : ga a.id with
    | none => rfl
    | some y =>
      have := hga _ _ hg
      cases y with
      | none => exact absurd rfl this
      | some n => rfl)
  clear hpz
  generalize joinE a (gm a.version).isSome (ga a.id).isSome = je at *
  generalize (gm a.version).isSome = kn at *
  generalize (ga a.id).isSome = th at *
  have ND1 := hide (fun W => areDigits_any a.id 8 19 h1 W)
  have ND2 := hide (fun W => areDigits_any a.pin 4 12 h2 W)
  have NW1 := hide (fun W => hwithin_any a.balance 0 999999999999 W)
  have NW2 := hide (fun W => hwithin_any a.most 0 999999999999 W)
  have NA := hide (fun W => newAccount_any a mv mk h1 W)
  have HPUT : Hid (∀ (W : World) (n : Nat), mapA W (m + 1 + 1) ga ka → ∃ w', (Instr.mapUpdate 47 (.map (some (m + 1 + 1))) (.string a.id) (.pointer (some ⟨n, 0, none⟩))).run Tryd.prog W = .ok () w' ∧ mapA w' (m + 1 + 1) (updX ga a.id (some (some n))) (addX ka a.id) ∧ W.grownBy w' (some (m + 1 + 1))) := hide (fun W n hm => hm.put keyStr Tryd.underlying47 (by unfold maxLen; omega) a.id (some n) h1)
  have hkai : ((ka.length : Int) == 1000) = false := by simpa using (show ¬ (ka.length : Int) = 1000 by omega)
  have HH1 := hide hH1; have HB1 := hide hB1; have HX1 := hide hX1; have HW1 := hide hW1
  have hc := (hostCells hH1.box).1
  have hc4 := (accCells hX1).2.2.2.2
  have hwl : w.heap.size < W1.heap.size := blkLtH hX1
  have hbl : m + 1 + 1 + 1 + 1 < W1.heap.size := blkLtH hH1.box
  unfold accObj at HW1
  obtain ⟨id, pin, bal, mo, ver⟩ := a
  unfold pinB amB at HJE
  unfold valAccount at NA ⊢
  dsimp only at *
  clear h hH1 hB1 hX1 hW1 h1 h2 h3 hga hka hmv
  go_enter Tryd.func8, Tryd.ntmps8
  go_upto_region 1 with fail
  rw [← unhide HW1]
  go_cut [5, 6] from 7 to 16 (fun pv kv wx => pv = .pointer (some ⟨W1.heap.size, 0, none⟩) ∧ kv = .bool kn ∧ wx = (W1.alloc (.cells #[.int .i64 mv, .string mk] 52)).drew)
  case first =>
    go_region
    all_goals
      go_wp2_with fail
      go_meet
      exact ⟨rfl, rfl, rfl⟩
  case rest =>
  obtain ⟨rfl, rfl, hwx⟩ := hcut
  subst hwx
  obtain ⟨W2, hW2⟩ : ∃ W2, W2 = (W1.alloc (.cells #[.int .i64 mv, .string mk] 52)).drew := ⟨_, rfl⟩
  have hB2 : Below W1.heap.size W1 W2 := by rw [hW2]; exact ((Below.refl _ _).alloc (Nat.le_refl _) _).drew
  have hX2 : W2.heap[W1.heap.size]? = some (.cells #[.int .i64 mv, .string mk] 52) := by rw [hW2]; exact heap_alloc_new W1 _
  rw [← hW2]
  have hA2 := (hB2.block _ (blkLtH (unhide HX1))).trans (unhide HX1)
  have HH2 := hide ((unhide HH1).below hB2)
  have HBW := hide ((unhide HB1).trans (hB2.mono (unhide HB1).size))
  have CA := hide (fun w' (hb : Below W2.heap.size W2 w') => accCells ((hb.block _ (blkLtH hA2)).trans hA2))
  have CM := hide (fun w' (hb : Below W2.heap.size W2 w') => mstCells ((hb.block _ (blkLtH hX2)).trans hX2))
  clear hW2 hB2 hX2 hA2 HH1 HX1 HW1 hc hc4 hlk hlk2 hwl hbl
  generalize W1.heap.size = mb at *
  dsimp only at CA
  obtain ⟨d0, d1, d2, d3, d4⟩ := unhide CA W2 (Below.refl _ _)
  have hje := unhide HJE
  obtain ⟨ep, hep⟩ : ∃ ep, pin.toList.isEmpty = ep := ⟨_, rfl⟩
  rw [hep] at hje
  obtain ⟨g1, hg1⟩ : ∃ g1, digitsB id 8 19 = g1 := ⟨_, rfl⟩
  obtain ⟨g2, hg2⟩ : ∃ g2, digitsB pin 4 12 = g2 := ⟨_, rfl⟩
  obtain ⟨g3, hg3⟩ : ∃ g3, inB bal 0 999999999999 = g3 := ⟨_, rfl⟩
  obtain ⟨g4, hg4⟩ : ∃ g4, inB mo 0 999999999999 = g4 := ⟨_, rfl⟩
  rw [hg1] at hje ND1
  rw [hg2] at hje ND2
  rw [hg3] at hje NW1
  rw [hg4] at hje NW2
  clear HJE hg1 hg2 hg3 hg4
  have HJE := hide hje
  clear hje
  go_upto_region 2 with fail
  go_cut [17] from 18 to 32 (fun cv wx => cv = .bool (!g1 || (!ep && !g2)) ∧ Below W2.heap.size W2 wx)
  case first =>
    go_wp2_with fail
    refine (unhide ND1 _).mono ?_
    rintro e w1 ⟨rfl, hb1⟩
    obtain ⟨d0, d1, d2, d3, d4⟩ := unhide CA w1 hb1
    have HBa := hide hb1
    clear hb1
    cases g1 with
    | false =>
      go_wp2_with fail
      go_meet
      exact ⟨rfl, unhide HBa⟩
    | true =>
      cases ep with
      | true =>
        go_wp2_with fail
        go_meet
        exact ⟨rfl, unhide HBa⟩
      | false =>
        go_wp2_with fail
        refine (unhide ND2 _).mono ?_
        rintro e w2 ⟨rfl, hb2⟩
        have HBb := hide ((unhide HBa).trans (hb2.mono (unhide HBa).size))
        clear hb2
        go_wp2_with fail
        go_meet
        exact ⟨by cases g2 <;> rfl, unhide HBb⟩
  case rest =>
  obtain ⟨rfl, hbc⟩ := hcut
  rename World => W3
  obtain ⟨d0, d1, d2, d3, d4⟩ := unhide CA W3 hbc
  have HBc := hide hbc
  have hje := unhide HJE
  obtain ⟨b1, hb1⟩ : ∃ b1, (!g1 || (!ep && !g2)) = b1 := ⟨_, rfl⟩
  rw [hb1] at hje ⊢
  clear hb1 hbc
  cases b1 with
  | true =>
    have HJ : Hid (je = 1) := hide (by rw [hje]; rfl)
    clear hje HJE
    go_wp2
    go_ret
    exact ⟨by rw [unhide HJ]; rfl, JPost.of ((unhide HBW).trans ((unhide HBc).mono (unhide HBW).size)), fun h => absurd ((unhide HJ).symm.trans h) (by decide), fun _ => (unhide HH2).below (unhide HBc)⟩
  | false =>
  rw [if_neg (by decide)] at hje
  have HJE2 := hide hje
  clear hje HJE
  go_upto_region 4 with fail
  go_cut [33] from 34 to 43 (fun cv wx => cv = .bool (!g3 || !g4) ∧ wx = W3)
  case first =>
    go_wp2_with fail
    refine (unhide NW1 _).mono ?_
    rintro e w1 ⟨rfl, hw1⟩
    have hw1' := hw1.symm
    subst hw1'
    cases g3 with
    | false =>
      go_wp2_with fail
      go_meet
      exact ⟨rfl, rfl⟩
    | true =>
      go_wp2_with fail
      refine (unhide NW2 _).mono ?_
      rintro e w1 ⟨rfl, hw1⟩
      have hw1' := hw1.symm
      subst hw1'
      go_wp2_with fail
      go_meet
      exact ⟨by cases g4 <;> rfl, rfl⟩
  case rest =>
  obtain ⟨rfl, hw3⟩ := hcut
  have hw3' := hw3.symm
  subst hw3'
  have hje := unhide HJE2
  have HJE := HJE2
  obtain ⟨b2, hb2⟩ : ∃ b2, (!g3 || !g4) = b2 := ⟨_, rfl⟩
  rw [hb2] at hje ⊢
  clear hb2 HJE2
  cases b2 with
  | true =>
    have HJ : Hid (je = 3) := hide (by rw [hje]; rfl)
    clear hje HJE
    go_wp2
    go_ret
    exact ⟨by rw [unhide HJ]; rfl, JPost.of ((unhide HBW).trans ((unhide HBc).mono (unhide HBW).size)), fun h => absurd ((unhide HJ).symm.trans h) (by decide), fun _ => (unhide HH2).below (unhide HBc)⟩
  | false =>
  rw [if_neg (by decide)] at hje
  cases kn with
  | false =>
    have HJ : Hid (je = 5) := hide (by rw [hje]; rfl)
    clear hje HJE
    go_wp2
    go_ret
    exact ⟨by rw [unhide HJ]; rfl, JPost.of ((unhide HBW).trans ((unhide HBc).mono (unhide HBW).size)), fun h => absurd ((unhide HJ).symm.trans h) (by decide), fun _ => (unhide HH2).below (unhide HBc)⟩
  | true =>
  rw [if_neg (by decide)] at hje
  have HJE2 := hide hje
  clear hje HJE
  obtain ⟨h0, h1, h2⟩ := hostCells ((unhide HH2).below (unhide HBc)).box
  go_upto_region 8 with fail
  go_cut [47] from 48 to 55 (fun cv wx => cv = .bool th ∧ Below W2.heap.size W2 wx)
  case first =>
    have hlq := fun q => unhide HGT (W3.drewN q) (((unhide HH2).below (unhide HBc)).acc.of_block rfl)
    have hth := unhide HPZ
    cases pz with
    | none =>
      unfold ptrV at hlq
      dsimp only at hlq hth
      go_wp2_with fail
      go_quiet (fail)
      go_wp2_with fail
      go_meet
      exact ⟨congrArg Value.bool hth, below_drewN (unhide HBc) _⟩
    | some pn =>
      unfold ptrV at hlq
      dsimp only at hlq hth
      go_wp2_with fail
      go_quiet (fail)
      go_wp2_with fail
      go_meet
      exact ⟨congrArg Value.bool hth, below_drewN (unhide HBc) _⟩
  case rest =>
  obtain ⟨rfl, hbd⟩ := hcut
  clear d0 d1 d2 d3 d4 h0 h1 h2 HBc
  rename World => W4
  obtain ⟨d0, d1, d2, d3, d4⟩ := unhide CA W4 hbd
  obtain ⟨e0, e1⟩ := unhide CM W4 hbd
  have hH4 := (unhide HH2).below hbd
  obtain ⟨h0, h1, h2⟩ := hostCells hH4.box
  have hln := fun ty => hH4.acc.len Tryd.underlying47 ty
  have HBc := hide hbd; have HH4 := hide hH4
  have hje := unhide HJE2
  have HJE := HJE2
  clear hbd hH4 HJE2
  cases th with
  | true =>
    have HJ : Hid (je = 6) := hide (by rw [hje]; rfl)
    clear hje HJE
    go_wp2
    go_ret
    exact ⟨by rw [unhide HJ]; rfl, JPost.of ((unhide HBW).trans ((unhide HBc).mono (unhide HBW).size)), fun h => absurd ((unhide HJ).symm.trans h) (by decide), fun _ => (unhide HH2).below (unhide HBc)⟩
  | false =>
    have HJ : Hid (je = 0) := hide (by rw [hje]; rfl)
    clear hje HJE
    go_upto_region 12 with fail
    go_cut [] from 63 to 71 (fun wx => (∃ n, HostAt wx m gm km (updX ga id (some (some n))) (addX ka id)) ∧ JPost w wx (m + 1 + 1))
    case first =>
      go_region_law ((refine step_call2 (by rfl) 16 _ _ _ (by rfl) (.agg #[.string id, .string pin, .int .i64 bal, .int .i64 mo, .int .i64 ver]) (.agg #[.int .i64 mv, .string mk]) (by rfl) (by rfl) ent_newAccount (unhide NA _) ?_; rintro ev z1 ⟨⟨n, rfl⟩, k1⟩; refine ⟨_, rfl, ?_⟩; have k0 : Below W4.heap.size W4 z1 := (Below.refl _ _).drew.trans k1; have k2 : Below W2.heap.size W2 z1 := (unhide HBc).trans (k0.mono (unhide HBc).size); obtain ⟨y0, y1, y2, y3, y4⟩ := unhide CA z1 k2; obtain ⟨x0, x1, x2⟩ := hostCells ((unhide HH4).below k0).box; obtain ⟨w5, hrun, hm5, hg5⟩ := unhide HPUT z1 n ((unhide HH4).below k0).acc))
      all_goals
        have hH5 := (unhide HH4).below k0
        have HZ : Hid (HostAt w5 m gm km (updX ga id (some (some n))) (addX ka id)) := hide ⟨(hg5.block _ (blkLtH hH5.box) (by intro h; injection h with h; omega)).trans hH5.box, hH5.mas.of_block (hg5.block _ hH5.mas.lt (by intro h; injection h with h; omega)), hm5⟩
        have HP := hide (JPost.grown (((unhide HBW).trans ((unhide HBc).mono (unhide HBW).size)).trans (k0.mono (Nat.le_trans (unhide HBW).size (unhide HBc).size))) hg5)
        clear k0 k1 k2 hrun hm5 hg5 hH5
        go_wp2_with fail
        go_meet
        exact ⟨⟨n, unhide HZ⟩, unhide HP⟩
    case rest =>
      obtain ⟨⟨n, hz⟩, hp⟩ := hcut
      have HZ := hide hz; have HP := hide hp
      clear hz hp
      go_wp2
      go_ret
      exact ⟨by rw [unhide HJ]; rfl, unhide HP, fun _ => ⟨n, unhide HZ⟩, fun h => absurd (unhide HJ) h⟩
end Go.Proofs.YtbiipeapcclbkaaDoor
