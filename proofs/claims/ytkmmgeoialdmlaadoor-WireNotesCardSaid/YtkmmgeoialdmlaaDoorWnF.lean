/- The reference's Write. -/
import Derived.Test.YtkmmgeoialdmlaaDoorWnE
namespace Go.Proofs.YtkmmgeoialdmlaaDoor
open Go.RowKit
set_option linter.unusedVariables false

def numsL (x : Nt) : List Value := [.int .i64 0, .int .i64 0, .int .i64 (x.num 2), .int .i64 (x.num 3), .int .i64 (x.num 4), .int .i64 (x.num 5), .int .i64 (x.num 6), .int .i64 (x.num 7), .int .i64 0, .int .i64 0, .int .i64 (x.num 10), .int .i64 0, .int .i64 (x.num 12), .int .i64 (x.num 13), .int .i64 0, .int .i64 0, .int .i64 0]
def txtsL (x : Nt) : List Value := [.string ⟨#[]⟩, .string (x.txt 1), .string ⟨#[]⟩, .string ⟨#[]⟩, .string ⟨#[]⟩, .string ⟨#[]⟩, .string ⟨#[]⟩, .string ⟨#[]⟩, .string (x.txt 8), .string (x.txt 9), .string ⟨#[]⟩, .string (x.txt 11), .string ⟨#[]⟩, .string ⟨#[]⟩, .string (x.txt 14), .string (x.txt 15), .string (x.txt 16)]
theorem numsL_at (x : Nt) (f : Nat) (h1 : 1 ≤ f) (h16 : f ≤ 16) (hn : isNum f = true) : (numsL x)[f]? = some (.int .i64 (x.num f)) := by
  rcases one_to_16 h1 h16 with rfl | rfl | rfl | rfl | rfl | rfl | rfl | rfl | rfl | rfl | rfl | rfl | rfl | rfl | rfl | rfl
  all_goals first | (cases hn; done) | rfl
theorem txtsL_at (x : Nt) (f : Nat) (h1 : 1 ≤ f) (h16 : f ≤ 16) : (txtsL x)[f]? = some (.string (if isNum f then ⟨#[]⟩ else x.txt f)) := by
  rcases one_to_16 h1 h16 with rfl | rfl | rfl | rfl | rfl | rfl | rfl | rfl | rfl | rfl | rfl | rfl | rfl | rfl | rfl | rfl
  all_goals rfl
theorem isNum_as (f : Nat) (h1 : 1 ≤ f) (h16 : f ≤ 16) : isNum f = (fdig f && decide (fahead f = 0)) := by
  have : ∀ k : Fin 17, 1 ≤ k.val → isNum k.val = (fdig k.val && decide (fahead k.val = 0)) := by decide
  exact this ⟨f, by omega⟩ h1
theorem fieldsB_at (k : Int) (q f : Nat) (h : (fieldsL k)[q]? = some f) : byteAt (fieldsB k) q = f := by
  have hr := fieldsL_range k f (List.mem_of_getElem? h)
  unfold byteAt fieldsB
  simp only [List.getD_eq_getElem?_getD]
  rw [List.getElem?_map, h]
  show (UInt8.ofNat f).toNat = f
  rw [UInt8.toNat_ofNat']
  omega
theorem fieldsB_size (k : Int) : (fieldsB k).size = (fieldsL k).length := by
  show ((fieldsL k).map UInt8.ofNat).toArray.size = _
  rw [List.size_toArray, List.length_map]
set_option maxRecDepth 100000 in
set_option maxHeartbeats 8000000 in
theorem rwrite_any (x : Nt) (hx : NtOk x) (hc : Cashy x) (w : World) :
    Calls Tryd.prog 11 #[noteV x] w fun e w' => e = .returned (.tuple #[.string (wrS x), .int .i64 (wrE x)]) ∧ Below w.heap.size w w' := by
  obtain ⟨cb, hcb⟩ : ∃ cb, cb = decide (x.num 3 = 1) := ⟨_, rfl⟩
  have hv : noteV x = .agg (noteC x.kind x.num x.txt cb).toArray := by rw [hcb]; rfl
  rw [hv]
  obtain ⟨W1, hW1⟩ : ∃ W1, W1 = w.alloc (.cells (noteC x.kind x.num x.txt cb).toArray 35) := ⟨_, rfl⟩
  have hB1 : Below w.heap.size w W1 := by rw [hW1]; exact (Below.refl _ _).alloc (Nat.le_refl _) _
  have hS1 : W1.heap.size = w.heap.size + 1 := by rw [hW1]; simp
  have hX1 : W1.heap[w.heap.size]? = some (.cells (noteC x.kind x.num x.txt cb).toArray 35 (0, 0)) := by rw [hW1]; exact heap_alloc_new _ _
  have CELL := hide (fun (w' : World) (h : Below W1.heap.size W1 w') (i : Nat) (v : Value) (hi : (noteC x.kind x.num x.txt cb)[i]? = some v) => (show w'.cell? ⟨w.heap.size, i, none⟩ = some v from
    (cell_of_row _ _ i _ _ _ ((h.block _ (by omega)).trans hX1)).trans (by rw [List.getElem?_toArray]; exact hi)))
  have N1 := hide (rfields_any x.kind W1)
  have k0 : W1.cell? ⟨w.heap.size, 0, none⟩ = some (.int .i64 x.kind) := unhide CELL W1 (Below.refl _ _) 0 _ rfl
  have HW1 := hide hW1; have HB1 := hide hB1; have HS1 := hide hS1; have HX1 := hide hX1
  have HWE : Hid (wrE x = if fieldsL x.kind = [] then 4 else if okN x then packE x.kind (partsN x) else 3) := hide rfl
  have HWS : Hid (wrS x = if fieldsL x.kind = [] then ⟨#[]⟩ else if okN x then packS x.kind (partsN x) else ⟨#[]⟩) := hide rfl
  generalize wrE x = we at *
  generalize wrS x = ws at *
  have HCB := hide hcb
  have hx3 : x.num 3 = if cb then 1 else 0 := by
    rw [hcb]
    rcases hc with hc | hc <;> rw [hc] <;> rfl
  have HX3 := hide hx3
  have hfs := fieldsB_size x.kind
  have hfa := fun q f h => fieldsB_at x.kind q f h
  have hfe : fieldsL x.kind = [] → (fieldsB x.kind).toList.isEmpty = true := fun h => by rw [Lib.toList_data]; unfold fieldsB; rw [h]; rfl
  have hfn : fieldsL x.kind ≠ [] → (fieldsB x.kind).toList.isEmpty = false := fun h => by
    rw [Lib.toList_data]
    show ((fieldsL x.kind).map UInt8.ofNat).isEmpty = false
    cases h' : fieldsL x.kind with
    | nil => exact absurd h' h
    | cons a r => rfl
  generalize fieldsB x.kind = fb at *
  have HFS := hide hfs; have HFA := hide hfa
  clear hW1 hB1 hS1 hX1 hv hcb hx3 hfs hfa
  go_enter Tryd.func11, Tryd.ntmps11
  go_upto_region 1 with fail
  rw [← unhide HW1]
  go_wp2_with fail
  refine (unhide N1).mono ?_
  rintro e w2 ⟨rfl, hw2⟩
  subst hw2
  clear k0
  by_cases hL : fieldsL x.kind = []
  · have h1 : we = 4 := by rw [unhide HWE, if_pos hL]
    have h2 : ws = ⟨#[]⟩ := by rw [unhide HWS, if_pos hL]
    have he := hfe hL
    clear hL hfe hfn
    subst h1 h2
    go_wp2
    go_ret2
    exact ⟨rfl, unhide HB1⟩
  · have he := hfn hL
    have HL := hide hL
    clear hfe hfn hL
    have hl12 := fieldsL_len x.kind
    have hrg := fieldsL_range x.kind
    have c13 := unhide CELL _ (Below.refl _ _) 13 (.bool cb) rfl
    go_upto_if 22 with fail
    go_cut [0, 5, 22] (fun _ cv _ wx => cv = .int .i64 (x.num 3) ∧ wx = w2)
    case first =>
      cases hcb : cb with
      | false =>
        rw [hcb] at c13
        have h3 := unhide HX3
        rw [hcb] at h3
        have HH3 := hide h3
        clear h3
        go_wp2_with fail
        go_meet
        exact ⟨by rw [unhide HH3]; rfl, rfl⟩
      | true =>
        rw [hcb] at c13
        have h3 := unhide HX3
        rw [hcb] at h3
        have HH3 := hide h3
        clear h3
        go_wp2_with fail
        go_meet
        exact ⟨by rw [unhide HH3]; rfl, rfl⟩
    case rest =>
    obtain ⟨rfl, hwc⟩ := hcut
    have hwc' := hwc.symm
    subst hwc'
    clear c13
    have k0 := unhide CELL w2 (Below.refl _ _) 0 (.int .i64 x.kind) rfl
    have k1 := unhide CELL w2 (Below.refl _ _) 1 (.int .i64 (x.num 10)) rfl
    have k2 := unhide CELL w2 (Below.refl _ _) 2 (.int .i64 (x.num 12)) rfl
    have k3 := unhide CELL w2 (Below.refl _ _) 3 (.int .i64 (x.num 13)) rfl
    have k4 := unhide CELL w2 (Below.refl _ _) 4 (.string (x.txt 1)) rfl
    have k5 := unhide CELL w2 (Below.refl _ _) 5 (.string (x.txt 9)) rfl
    have k6 := unhide CELL w2 (Below.refl _ _) 6 (.string (x.txt 11)) rfl
    have k7 := unhide CELL w2 (Below.refl _ _) 7 (.string (x.txt 14)) rfl
    have k8 := unhide CELL w2 (Below.refl _ _) 8 (.string (x.txt 15)) rfl
    have k9 := unhide CELL w2 (Below.refl _ _) 9 (.string (x.txt 16)) rfl
    have k10 := unhide CELL w2 (Below.refl _ _) 10 (.int .i64 (x.num 5)) rfl
    have k11 := unhide CELL w2 (Below.refl _ _) 11 (.int .i64 (x.num 6)) rfl
    have k12 := unhide CELL w2 (Below.refl _ _) 12 (.int .i64 (x.num 2)) rfl
    have k13 := unhide CELL w2 (Below.refl _ _) 13 (.bool cb) rfl
    have k14 := unhide CELL w2 (Below.refl _ _) 14 (.int .i64 (x.num 4)) rfl
    have k15 := unhide CELL w2 (Below.refl _ _) 15 (.int .i64 (x.num 7)) rfl
    have k16 := unhide CELL w2 (Below.refl _ _) 16 (.string (x.txt 8)) rfl
    obtain ⟨W3, hW3⟩ : ∃ W3, W3 = (w2.alloc (.cells #[.int .i64 0, .int .i64 0, .int .i64 (x.num 2), .int .i64 (x.num 3), .int .i64 (x.num 4), .int .i64 (x.num 5), .int .i64 (x.num 6), .int .i64 (x.num 7), .int .i64 0, .int .i64 0, .int .i64 (x.num 10), .int .i64 0, .int .i64 (x.num 12), .int .i64 (x.num 13), .int .i64 0, .int .i64 0, .int .i64 0] 3)).alloc (.cells #[.string ⟨#[]⟩, .string (x.txt 1), .string ⟨#[]⟩, .string ⟨#[]⟩, .string ⟨#[]⟩, .string ⟨#[]⟩, .string ⟨#[]⟩, .string ⟨#[]⟩, .string (x.txt 8), .string (x.txt 9), .string ⟨#[]⟩, .string (x.txt 11), .string ⟨#[]⟩, .string ⟨#[]⟩, .string (x.txt 14), .string (x.txt 15), .string (x.txt 16)] 9) := ⟨_, rfl⟩
    have hB3 : Below w2.heap.size w2 W3 := by rw [hW3]; exact ((Below.refl _ _).alloc (Nat.le_refl _) _).alloc (by simp) _
    have hS3 : W3.heap.size = w2.heap.size + 1 + 1 := by rw [hW3]; simp
    have hN3 : W3.heap[w2.heap.size]? = some (.cells (numsL x).toArray 3 (0, 0)) := by rw [hW3]; exact (Below.heap_alloc _ _ _ (by simp)).trans (heap_alloc_new _ _)
    have hT3 : W3.heap[w2.heap.size + 1]? = some (.cells (txtsL x).toArray 9 (0, 0)) := by
      rw [hW3]
      have e1 : (w2.alloc (.cells #[.int .i64 0, .int .i64 0, .int .i64 (x.num 2), .int .i64 (x.num 3), .int .i64 (x.num 4), .int .i64 (x.num 5), .int .i64 (x.num 6), .int .i64 (x.num 7), .int .i64 0, .int .i64 0, .int .i64 (x.num 10), .int .i64 0, .int .i64 (x.num 12), .int .i64 (x.num 13), .int .i64 0, .int .i64 0, .int .i64 0] 3)).heap.size = w2.heap.size + 1 := by simp
      rw [← e1]; exact heap_alloc_new _ _
    obtain ⟨W4, hW4⟩ : ∃ W4, W4 = W3.alloc (.cells #[.int .i64 x.kind, .slice none 0 0] 24) := ⟨_, rfl⟩
    have hB4 : Below W3.heap.size W3 W4 := by rw [hW4]; exact (Below.refl _ _).alloc (Nat.le_refl _) _
    have hS4 : W4.heap.size = W3.heap.size + 1 := by rw [hW4]; simp
    have hX4 : W4.heap[W3.heap.size]? = some (.cells #[.int .i64 x.kind, .slice none 0 0] 24 (0, 0)) := by rw [hW4]; exact heap_alloc_new _ _
    obtain ⟨mb, hmb⟩ : ∃ mb, mb = w2.heap.size + 1 + 1 := ⟨_, rfl⟩
    have hmb3 : mb = W3.heap.size := by omega
    have hnb : w2.heap.size < mb := by omega
    have htb : w2.heap.size + 1 < mb := by omega
    have HNC := hide (fun wx (h : Below mb W4 wx) (f : Nat) (h1 : 1 ≤ f) (h16 : f ≤ 16) (hn : isNum f = true) => (show wx.cell? ⟨w2.heap.size, f, none⟩ = some (.int .i64 (x.num f)) from
      (h.cell (p := ⟨w2.heap.size, f, none⟩) hnb).trans ((hB4.cell (p := ⟨w2.heap.size, f, none⟩) (by show w2.heap.size < _; omega)).trans ((cell_of_row _ _ f _ _ _ hN3).trans (by rw [List.getElem?_toArray]; exact numsL_at x f h1 h16 hn)))))
    have HTC := hide (fun wx (h : Below mb W4 wx) (f : Nat) (h1 : 1 ≤ f) (h16 : f ≤ 16) => (show wx.cell? ⟨w2.heap.size + 1, f, none⟩ = some (.string (if isNum f then ⟨#[]⟩ else x.txt f)) from
      (h.cell (p := ⟨w2.heap.size + 1, f, none⟩) htb).trans ((hB4.cell (p := ⟨w2.heap.size + 1, f, none⟩) (by show w2.heap.size + 1 < _; omega)).trans ((cell_of_row _ _ f _ _ _ hT3).trans (by rw [List.getElem?_toArray]; exact txtsL_at x f h1 h16)))))
    have HBF := hide (fun wx (h : Below mb W4 wx) => (show Below w.heap.size w wx from
      (((unhide HB1).trans (hB3.mono (unhide HB1).size)).trans (hB4.mono (by have := (unhide HB1).size; omega))).trans (h.mono (by have := (unhide HB1).size; omega))))
    have hI0 : WInv x W4 mb (mb + 1) (.int .i64 0) W4 := ⟨0, .slice none 0 0, Nat.zero_le _, rfl, rfl, ⟨by rw [hmb3]; exact hX4, World.ownsRow_nil _ _ _ _, by omega⟩, Below.refl _ _, by omega⟩
    have HI0 := hide hI0
    have HW4 := hide (hW4.trans (by rw [hW3]) : W4 = ((w2.alloc (.cells #[.int .i64 0, .int .i64 0, .int .i64 (x.num 2), .int .i64 (x.num 3), .int .i64 (x.num 4), .int .i64 (x.num 5), .int .i64 (x.num 6), .int .i64 (x.num 7), .int .i64 0, .int .i64 0, .int .i64 (x.num 10), .int .i64 0, .int .i64 (x.num 12), .int .i64 (x.num 13), .int .i64 0, .int .i64 0, .int .i64 0] 3)).alloc (.cells #[.string ⟨#[]⟩, .string (x.txt 1), .string ⟨#[]⟩, .string ⟨#[]⟩, .string ⟨#[]⟩, .string ⟨#[]⟩, .string ⟨#[]⟩, .string ⟨#[]⟩, .string (x.txt 8), .string (x.txt 9), .string ⟨#[]⟩, .string (x.txt 11), .string ⟨#[]⟩, .string ⟨#[]⟩, .string (x.txt 14), .string (x.txt 15), .string (x.txt 16)] 9)).alloc (.cells #[.int .i64 x.kind, .slice none 0 0] 24))
    have HMB := hide hmb
    obtain ⟨i0, hi0, hz0, hz1, hz2⟩ := info_partsY infoPart
    have HI := hide hi0; have Z0 := hide hz0; have Z1 := hide hz1; have Z2 := hide hz2
    clear hW3 hB3 hS3 hN3 hT3 hW4 hB4 hS4 hX4 hI0 hmb hmb3 hi0 hz0 hz1 hz2
    have hwl : w.heap.size < w2.heap.size := by have := unhide HS1; omega
    go_upto_region 10 with fail
    rw [← unhide HW4, ← unhide HMB]
    clear k0 k1 k2 k3 k4 k5 k6 k7 k8 k9 k10 k11 k12 k13 k14 k15 k16 HW4
    have hlen : ((fieldsL x.kind).length : Int) ≤ 12 := by omega
    go_wp2_with fail
    go_loopw [9] (fun iv wx => WInv x W4 mb (mb + 1) iv wx) (fun iv _ => (fieldsL x.kind).length - (intOf iv).toNat)
    case atStart => exact unhide HI0
    case round =>
      obtain ⟨q, v, hq, rfl, hall, hm, hbw, hbs⟩ := hrel
      clear HI0
      have c1 : wr.cell? ⟨mb, 1, none⟩ = some v := (cell_of_row _ _ 1 _ _ _ hm.blk).trans rfl
      have hfsz := unhide HFS
      by_cases hlt : q < (fieldsL x.kind).length
      · obtain ⟨f, hf⟩ : ∃ f, (fieldsL x.kind)[q]? = some f := ⟨_, List.getElem?_eq_getElem hlt⟩
        obtain ⟨hf1, hf16⟩ := hrg f (List.mem_of_getElem? hf)
        have htk : (fieldsL x.kind).take (q + 1) = (fieldsL x.kind).take q ++ [f] := by rw [List.take_add_one, hf]; rfl
        have hgb := fun h => get_byte fb q h
        rw [unhide HFA q f hf] at hgb
        have hlti : (q : Int) < (fb.size : Int) := by omega
        have hqz : q < fb.size := by omega
        have hmlt : mb < wr.heap.size := by omega
        have hmem : f ∈ fieldsL x.kind := List.mem_of_getElem? hf
        obtain ⟨pl, hpl⟩ : ∃ pl, pl = ((fieldsL x.kind).take q).map (partN x) := ⟨_, rfl⟩
        have hll : pl.length = q := by rw [hpl, List.length_map, List.length_take]; omega
        rw [← hpl] at hm
        have NF := hide (rfield_any f hf1 hf16 wr)
        have HPL := hide hpl; have HM := hide hm; have HBW := hide hbw; have HALL := hide hall; have HTK := hide htk; have HLL := hide hll
        have hfi : (f : Int) ≤ 16 := by omega
        have hwf : IntKind.i64.wrap (f : Int) = (f : Int) := wraps_i64 _ (by omega) (by omega)
        have his := isNum_as f hf1 hf16
        have HIS := hide his
        clear hm hbw hall htk hll hf hpl hfsz his
        go_wp2_with fail
        refine (unhide NF).mono ?_
        rintro e w5 ⟨rfl, hb5⟩
        have hbw5 : Below mb W4 w5 := (unhide HBW).trans (hb5.mono (by omega))
        have tc := unhide HTC w5 hbw5 f hf1 hf16
        obtain ⟨t0, ht0⟩ : ∃ t0, t0 = (if isNum f then (⟨#[]⟩ : ByteArray) else x.txt f) := ⟨_, rfl⟩
        rw [← ht0] at tc
        obtain ⟨W6, hW6⟩ : ∃ W6, W6 = w5.alloc (.cells #[.int .i64 (f : Int), .string t0] 45) := ⟨_, rfl⟩
        have hB56 : Below w5.heap.size w5 W6 := by rw [hW6]; exact (Below.refl _ _).alloc (Nat.le_refl _) _
        have hS6 : W6.heap.size = w5.heap.size + 1 := by rw [hW6]; simp
        have hX6 : W6.heap[w5.heap.size]? = some (.cells #[.int .i64 (f : Int), .string t0] 45 (0, 0)) := by rw [hW6]; exact heap_alloc_new _ _
        have hbw6 : Below mb W4 W6 := hbw5.trans (hB56.mono (by have := hb5.size; omega))
        have HW6 := hide hW6; have HB56 := hide hB56; have HX6 := hide hX6; have HBW6 := hide hbw6; have HB5 := hide hb5; have HT0 := hide ht0; have HS6 := hide hS6
        have hs5 := hb5.size
        clear hW6 hB56 hX6 hbw5 hbw6 hb5 ht0 hS6 NF
        go_upto_region 16 with fail
        rw [← unhide HW6]
        clear tc
        go_cut [91, 11, 12] from 65 to 111 (fun cv _ _ wx => cv = .bool (isNum f) ∧ wx = W6)
        case first =>
          have hi := unhide HIS
          cases hd : fdig f with
          | false =>
            rw [hd] at hi
            have HH := hide hi
            clear hi
            go_wp2_with fail
            go_meet
            exact ⟨by rw [unhide HH]; rfl, rfl⟩
          | true =>
            rw [hd, Bool.true_and] at hi
            have hfq : decide ((fahead f : Int) = 0) = decide (fahead f = 0) := decide_eq_decide.2 (by omega)
            have HH := hide (hi.trans hfq.symm)
            clear hi hfq
            go_wp2_with fail
            go_meet
            exact ⟨by rw [unhide HH]; rfl, rfl⟩
        case rest =>
        obtain ⟨rfl, hwc6⟩ := hcut
        have hwc7 := hwc6.symm
        subst hwc7
        go_upto_if 91 with fail
        go_cut [] from 65 to 111 (fun wx => goodF x f = true ∧ wx.heap[w5.heap.size]? = some (.cells #[.int .i64 (f : Int), .string (textN x f)] 45 (0, 0)) ∧ Below w5.heap.size w5 wx)
        case first =>
          cases hn : isNum f with
          | false =>
            have ht : textN x f = t0 := by rw [unhide HT0]; unfold textN; rw [hn]; rfl
            have HH := hide ht
            have HGF : Hid (goodF x f = true) := hide (by unfold goodF; rw [hn]; rfl)
            clear ht
            go_wp2_with fail
            go_meet
            exact ⟨unhide HGF, by rw [unhide HH]; exact unhide HX6, unhide HB56⟩
          | true =>
            obtain ⟨_, _, hm1, hm12⟩ := isNum_most f hn
            have nc := unhide HNC W6 (unhide HBW6) f hf1 hf16 hn
            have NFT := hide (fun w' => rfits_any (x.num f) (fmost f) hm12 w')
            have hfmi : (fmost f : Int) ≤ 12 := by omega
            have p1 : W6.cell? ⟨w5.heap.size, 1, none⟩ = some (.string t0) := (cell_of_row _ _ 1 _ _ _ (unhide HX6)).trans rfl
            have pf : W6.frozen? ⟨w5.heap.size, 1, none⟩ = false := frozen_of_row _ _ 1 _ _ (unhide HX6)
            cases hin : inR x f with
            | false =>
              have hin2 : decide (0 ≤ x.num f ∧ x.num f < ((10 ^ fmost f : Nat) : Int)) = false := hin
              rw [hin2] at NFT
              have h0 : okN x = false := by
                cases h : okN x with
                | false => rfl
                | true =>
                  have := List.all_eq_true.1 h f hmem
                  unfold goodF at this
                  rw [hn, hin] at this
                  cases this
              have h1 : we = 3 := by rw [unhide HWE, if_neg (unhide HL), h0]; rfl
              have h2 : ws = ⟨#[]⟩ := by rw [unhide HWS, if_neg (unhide HL), h0]; rfl
              subst h1 h2
              have HBR := hide (unhide HBF W6 (unhide HBW6))
              clear hin hin2 h0 hn
              go_wp2_with fail
              refine (unhide NFT _).mono ?_
              rintro e w7 ⟨rfl, hw7⟩
              have hw8 := hw7.symm
              subst hw8
              go_wp2
              go_ret2
              exact ⟨rfl, unhide HBR⟩
            | true =>
              have hin2 : decide (0 ≤ x.num f ∧ x.num f < ((10 ^ fmost f : Nat) : Int)) = true := hin
              rw [hin2] at NFT
              obtain ⟨g0, g1⟩ := of_decide_eq_true hin2
              obtain ⟨m, hm⟩ : ∃ m : Nat, x.num f = (m : Int) := ⟨(x.num f).toNat, by omega⟩
              have ht : textN x f = ⟨(digs m (fmost f)).toArray⟩ := by unfold textN numT; rw [hn, hm]; rfl
              have hxb := (hx.1 f).2
              have ND := hide (fun w' => rdecimal_any m (fmost f) (by omega) (by omega) w')
              rw [hm] at nc NFT
              have HH := hide ht
              have HGF : Hid (goodF x f = true) := hide (by unfold goodF; rw [hn, hin]; rfl)
              clear ht hin hin2 hn g0 g1 hm hxb
              go_wp2_with fail
              refine (unhide NFT _).mono ?_
              rintro e w7 ⟨rfl, hw7⟩
              have hw8 := hw7.symm
              subst hw8
              go_wp2_with fail
              refine (unhide ND _).mono ?_
              rintro e w8 ⟨rfl, hb8⟩
              have hX8 := (hb8.block w5.heap.size (by have := unhide HS6; omega)).trans (unhide HX6)
              have r1 : w8.cell? ⟨w5.heap.size, 1, none⟩ = some (.string t0) := (cell_of_row _ _ 1 _ _ _ hX8).trans rfl
              have rf : w8.frozen? ⟨w5.heap.size, 1, none⟩ = false := frozen_of_row _ _ 1 _ _ hX8
              have HX8 := hide hX8; have HB8 := hide hb8
              clear hX8 hb8
              go_wp2_with fail
              go_meet
              refine ⟨unhide HGF, ?_, ?_⟩
              · rw [unhide HH, setCell_eq_setRow w8 w5.heap.size 1 _ _ _ _ (unhide HX8), setRow_heap w8 w5.heap.size _ _ _ _ (unhide HX8)]; rfl
              · exact ((unhide HB56).trans ((unhide HB8).mono (unhide HB56).size)).setCell (p := ⟨w5.heap.size, 1, none⟩) (Nat.le_refl _) _
        case rest =>
        obtain ⟨hgd, hXc, hBc⟩ := hcut
        have hBc2 : Below wr.heap.size wr wc := (unhide HB5).trans (hBc.mono hs5)
        have p0 : wc.cell? ⟨w5.heap.size, 0, none⟩ = some (.int .i64 (f : Int)) := (cell_of_row _ _ 0 _ _ _ hXc).trans rfl
        have p1 : wc.cell? ⟨w5.heap.size, 1, none⟩ = some (.string (textN x f)) := (cell_of_row _ _ 1 _ _ _ hXc).trans rfl
        have c6 : wc.cell? ⟨mb, 1, none⟩ = some v := (hBc2.cell (p := ⟨mb, 1, none⟩) hmlt).trans c1
        have hm6 : MsgAt wc mb (mb + 1) x.kind v pl := (unhide HM).kept (hBc2.block mb hmlt) (fun r hr => hBc2.block r ((unhide HM).block r hr).2)
        have hs6 := hBc2.size
        have HM6 := hide hm6; have HB6 := hide hBc2; have HGD := hide hgd
        clear hXc hBc hBc2 hm6 hgd
        generalize htx : textN x f = tx at *
        have HTX := hide htx
        clear htx
        go_wp2_with (at_builtin; refine wpList_append_own _ rfl _ _ 22 rfl (mb + 1) 45 i0 (.agg #[.int .i64 0, .string ⟨#[]⟩]) 2 24 Tryd.underlying22 (unhide HI) (unhide Z0) (unhide Z1) (unhide Z2) rfl (by decide) _ _ _ rfl ((unhide HM6).own.alloc _) ⟨wc.heap.size, 0, none⟩ 1 1 [.int .i64 (f : Int), .string tx] rfl rfl (World.news_of_block (heap_alloc_new _ _)) ?c2 ?c3 ?c4 ?c5 ?_)
        case c2 => simp [Value.oneCell']
        case c3 => have := unhide HLL; unfold maxLen; omega
        case c4 => have := unhide HLL; omega
        case c5 => first | (simp; omega) | omega
        intro v' w7 hown' hgrow _
        obtain ⟨g', cap', hv'⟩ : ∃ g' cap', v' = .slice (some ⟨g', 0, none⟩) (pl.length + 1) cap' := by
          rcases hown'.2 with ⟨_, h0⟩ | ⟨g', cap', cur, e, _⟩
          · exact absurd h0 (by omega)
          · exact ⟨g', cap', e⟩
        subst hv'
        have hb7 : w7.heap[mb]? = some (.cells #[.int .i64 x.kind, v] 24 (0, 0)) := ((hgrow.block mb (by simp; omega) (fun e' => by have := ((unhide HM6).block mb e'.symm).1; omega)).trans (Below.heap_alloc _ _ _ (by omega))).trans (unhide HM6).blk
        have d1 : w7.cell? ⟨mb, 1, none⟩ = some v := (cell_of_row _ _ 1 _ _ _ hb7).trans rfl
        have df : w7.frozen? ⟨mb, 1, none⟩ = false := frozen_of_row _ _ 1 _ _ hb7
        have hap := msg_app hbs (unhide HB6) (unhide HM) hgrow hown' hb7
        have HAP := hide hap
        clear hown' hgrow hb7 hap
        go_wp2
        go_roundw
        case rel =>
          obtain ⟨a1, a2, a3, _⟩ := unhide HAP
          refine ⟨q + 1, .slice (some ⟨g', 0, none⟩) (pl.length + 1) cap', by omega, by go_num, ?_, ?_, (unhide HBW).trans a2, a3⟩
          · rw [unhide HTK, List.all_append, unhide HALL, Bool.true_and, List.all_cons, unhide HGD]; rfl
          · rw [unhide HTK, List.map_append]
            have e : partN x f = ((f : Int), tx) := by unfold partN; rw [unhide HTX]
            rw [List.map_cons, List.map_nil, e, ← unhide HPL]
            exact a1
        case measure => simp [intOf]; omega
      · have hlti : ¬ (q : Int) < (fb.size : Int) := by omega
        have htq : (fieldsL x.kind).take q = fieldsL x.kind := List.take_of_length_le (by omega)
        rw [htq] at hall hm
        have hm' : MsgAt wr mb (mb + 1) x.kind v (partsN x) := hm
        have hwe : we = packE x.kind (partsN x) := by rw [unhide HWE, if_neg (unhide HL), show okN x = true from hall]; rfl
        have hws : ws = packS x.kind (partsN x) := by rw [unhide HWS, if_neg (unhide HL), show okN x = true from hall]; rfl
        have hpok : ∀ p ∈ partsN x, (-9223372036854775808 ≤ p.1 ∧ p.1 ≤ 9223372036854775807) ∧ p.2.size ≤ maxLen := partsN_ok x hx _ (fun f hf => (hrg f hf).2)
        have hpl : (partsN x).length ≤ 12 := by unfold partsN; rw [List.length_map]; omega
        obtain ⟨pa, c, rfl, hrow⟩ := PRow.of_own hm'.own
        have e0 : wr.cell? ⟨mb, 0, none⟩ = some (.int .i64 x.kind) := (cell_of_row _ _ 0 _ _ _ hm'.blk).trans rfl
        have NK := hide (rpack_any x.kind (partsN x) pa c wr hrow (by omega) hpok)
        rw [← hwe, ← hws] at NK
        have HBW := hide hbw
        clear hm hm' hwe hws hpok hpl hrow hall htq hbw hfsz
        generalize (partsN x).length = pn at *
        go_wp2_with fail
        refine (unhide NK).mono ?_
        rintro e w5 ⟨rfl, hb5⟩
        have HB5 := hide hb5
        clear hb5
        go_wp2
        go_ret2
        have h1 := unhide HBF wr (unhide HBW)
        exact ⟨rfl, h1.trans ((unhide HB5).mono h1.size)⟩
end Go.Proofs.YtkmmgeoialdmlaaDoor
