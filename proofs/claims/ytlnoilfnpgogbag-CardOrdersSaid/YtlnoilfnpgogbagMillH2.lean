/- Hide of the program: the walk. -/
import Derived.Test.YtlnoilfnpgogbagMillH1
namespace Go.Proofs.Ytlnoilfnpgogbag
open Go.RowKit Go.Shelf
set_option linter.unusedVariables false

theorem nonce_blk (n : ByteArray) (hn : n.size = 8) : blkOf (n ++ zeroS 8).data.toList = ⟨wordAt n.data.toList 0, wordAt n.data.toList 1, 0, 0⟩ := by
  have h := blkOf_nonce n.data.toList 0 (by simpa using hn) (by decide)
  rw [← h, ByteArray.data_append, Array.toList_append, zeroS_data]
  rfl

set_option maxHeartbeats 4000000 in
set_option maxRecDepth 100000 in
theorem hide_yes (k n s : ByteArray) (hk : k.size = 16) (hn : n.size = 8) (hs : (s.size : Int) ≤ 65536) (w : World) :
    Calls Try.prog 43 #[.string k, .string n, .string s] w fun e w' => e = .returned (.tuple #[.string (hideS k n s), .int .i64 0]) ∧ Below w.heap.size w w' := by
  have t0 := len_eq k hk
  have t1 : ((n.size : Int) != 8) = false := by rw [bne_eq_false_iff_eq]; omega
  have z8 := zeroS_size 8
  have hnz : (n ++ zeroS 8).size = 16 := by rw [ByteArray.size_append, hn, z8]
  have N1 := hide (fun w => read_any k (by omega) w)
  have N2 := hide (fun w => zeros8_any w)
  have n3 := fun w => read_any (n ++ zeroS 8) (by omega) w
  rw [nonce_blk n hn] at n3
  have N3 := hide n3
  have hcv := fun W => Lib.run_convert_string_bytes (P := Try.prog) W 9 76 5 s Try.underlying9 Try.underlying76 Try.underlying5
  have hK := blkOf_ok k.data.toList
  have hn0 := wordAt_lt n.data.toList 0
  have hn1 := wordAt_lt n.data.toList 1
  have hfin : hideS k n s = strOfNums (hidL (maskAt (blkOf k.data.toList) (wordAt n.data.toList 0) (wordAt n.data.toList 1)) s.data.toList) := rfl
  have HF := hide hfin
  clear hfin n3 hk
  generalize blkOf k.data.toList = K at *
  generalize wordAt n.data.toList 0 = m0 at *
  generalize wordAt n.data.toList 1 = m1 at *
  generalize zeroS 8 = z at *
  unfold blkV at N1 N3
  go_enter Try.func43, Try.ntmps43
  go_wp2_with fail
  refine (unhide N1 _).mono ?_
  rintro e x1 ⟨rfl, b1⟩
  go_wp2_with fail
  refine (unhide N2 _).mono ?_
  rintro e x2 ⟨rfl, b2⟩
  have g2 := b1.trans (b2.mono b1.size)
  clear b1 b2 N1 N2
  go_wp2_with fail
  refine (unhide N3 _).mono ?_
  rintro e x3 ⟨rfl, b3⟩
  have g3 := g2.trans (b3.mono g2.size)
  clear b3 g2 N3
  go_wp2_with fail
  obtain ⟨hb2, q0, q1, hsz⟩ := two_new x3 (.cells #[.int .u32 (K.a : Nat), .int .u32 (K.b : Nat), .int .u32 (K.c : Nat), .int .u32 (K.d : Nat)] 112) (.cells #[.int .u32 (m0 : Nat), .int .u32 (m1 : Nat), .int .u32 0, .int .u32 0] 112)
  generalize (x3.alloc _).alloc _ = W at hb2 q0 q1 hsz ⊢
  have hKW : BlkAt W x3.heap.size K := q0
  have hNW : BlkAt W (x3.heap.size + 1) ⟨m0, m1, 0, 0⟩ := q1
  have hcb := conv_below W s
  have hO := ORow.conv W s
  have hKV := hKW.below hcb
  have hNV := hNW.below hcb
  have g4 := (g3.trans (hb2.mono g3.size))
  have g5 := g4.trans (hcb.mono g4.size)
  have hgx : w.heap.size ≤ x3.heap.size := g3.size
  rw [hsz] at hO
  rw [← hidAt_zero (maskAt K m0 m1)] at hO
  generalize grownCap W s.size 0 5 = cap at *
  generalize Lib.bytesWorld W 5 s = V at *
  clear hcv hcb hKW hNW q0 q1 hb2 g3 g4 hsz
  obtain ⟨l, hl⟩ : ∃ l, l = s.data.toList := ⟨_, rfl⟩
  have hll : l.length = s.size := by rw [hl]; simp
  rw [← hl] at hO
  have HL := hide hl
  obtain ⟨g, hg⟩ : ∃ g, g = x3.heap.size := ⟨_, rfl⟩
  rw [← hg] at hO hKV hNV hgx ⊢
  clear hl hg
  go_loopw [10, 36] (fun mk i wr => ∃ (j : Nat) (ms : ByteArray) (x : Nat), j ≤ s.size ∧ i = .int .i64 j ∧ mk = .string ms ∧ (j % 16 ≠ 0 → ms = blkS (maskB K m0 m1 (j / 16))) ∧ x < 4294967296 ∧ BlkAt wr g K ∧ BlkAt wr (g + 1) ⟨m0, m1, 0, x⟩ ∧ ORow wr (g + 1 + 1) (hidAt (maskAt K m0 m1) l j) ∧ Below w.heap.size w wr) (fun _ i _ => s.size - (intOf i).toNat)
  case atStart => exact ⟨0, ⟨#[]⟩, 0, Nat.zero_le _, rfl, rfl, fun h => absurd rfl h, by decide, hKV, hNV, hO, g5⟩
  case round =>
    clear hKV hNV hO g5 V
    obtain ⟨j, ms, x, hj, rfl, rfl, hms, hx, hKb, hNb, hO, hbel⟩ := hrel
    by_cases hlt : j < s.size
    · have hjl : j < l.length := by omega
      obtain ⟨c, hc⟩ : ∃ c, l[j]? = some c := ⟨l[j], List.getElem?_eq_getElem hjl⟩
      have hcl := hidAt_at (maskAt K m0 m1) l j c hc
      have hst := hidAt_step (maskAt K m0 m1) l j c hc
      have hOl := hidAt_length (maskAt K m0 m1) l j (by omega)
      have hyl := maskAt_lt K m0 m1 j
      have hxr := xor_u8 c.toNat (maskAt K m0 m1 j) c.toNat_lt hyl
      obtain ⟨r, hr⟩ : ∃ r, r = j % 16 := ⟨_, rfl⟩
      obtain ⟨q, hq⟩ : ∃ q, q = j / 16 := ⟨_, rfl⟩
      have hri : (j : Int) % 16 = (r : Int) := by omega
      have hqi : (j : Int) / 16 = (q : Int) := by omega
      have hr16 : r < 16 := by omega
      have hq16 : q ≤ 4096 := by omega
      have hmb : ∀ h : r < (blkS (maskB K m0 m1 q)).size, (((blkS (maskB K m0 m1 q))[r]'h).toNat : Int) = (maskAt K m0 m1 j : Nat) := fun h => by
        rw [blkS_get, maskAt, hr, hq]
      have hms16 := blkS_size (maskB K m0 m1 q)
      have hMok : (maskB K m0 m1 q).ok := fwd_ok _ _ _ ⟨hn0, hn1, show (0 : Nat) < 4294967296 by decide, show q < 4294967296 by omega⟩
      obtain ⟨y, hy⟩ : ∃ y, y = maskAt K m0 m1 j := ⟨_, rfl⟩
      rw [← hy] at hst hyl hxr hmb
      obtain ⟨c', hc'⟩ : ∃ c', c' = c.toNat := ⟨_, rfl⟩
      have hc256 : c' < 256 := by rw [hc']; exact c.toNat_lt
      rw [← hc'] at hst hxr hcl
      have oc := hO.cell j _ hcl
      have of := hO.frozen j (by rw [hOl]; exact hjl)
      have hz256 : c' ^^^ y < 256 := Nat.xor_lt_two_pow (n := 8) hc256 hyl
      by_cases hr0 : r = 0
      · have tr : ((r : Int) == 0) = true := by rw [hr0]; rfl
        have hset := (((hO.other (g + 1) 3 (by omega) (.int .u32 (q : Nat)))))
        have k0 := hKb.cell0
        have k1 := hKb.cell1
        have k2 := hKb.cell2
        have k3 := hKb.cell3
        have b0 := hNb.cell0
        have b1 := hNb.cell1
        have b2 := hNb.cell2
        have b3 := hNb.cell3
        have f3 := hNb.frozen 3
        have hKS := hKb.other (g + 1) 3 (by omega) (.int .u32 (q : Nat))
        have hNS : BlkAt (wr.setCell ⟨g + 1, 3, none⟩ (.int .u32 (q : Nat))) (g + 1) ⟨m0, m1, 0, q⟩ := hNb.set 3 (by decide) q
        have hBS := hbel.setCell (p := ⟨g + 1, 3, none⟩) (Nat.le_succ_of_le hgx) (.int .u32 (q : Nat))
        have N1 := hide (fun w => forth_any K ⟨m0, m1, 0, q⟩ hK ⟨hn0, hn1, show (0 : Nat) < 4294967296 by decide, show q < 4294967296 by omega⟩ w)
        have N2 := hide (fun w => text_any (maskB K m0 m1 q) hMok w)
        have e1 : fwd K 12 ⟨m0, m1, 0, q⟩ = maskB K m0 m1 q := rfl
        rw [e1] at N1
        unfold blkV at N1
        have HKS := hide hKS
        have HNS := hide hNS
        have HOS := hide hset
        have HBS := hide hBS
        have HST := hide hst
        have HCL := hide hcl
        have HOL := hide (show j < (hidAt (maskAt K m0 m1) l j).length by rw [hOl]; exact hjl)
        have HMS := hide (show (j + 1) % 16 ≠ 0 → blkS (maskB K m0 m1 q) = blkS (maskB K m0 m1 ((j + 1) / 16)) from fun h => by rw [show (j + 1) / 16 = q by omega])
        have hq32 : q < 4294967296 := by omega
        clear e1 hKb hNb hO hbel hset hKS hNS hBS hst hMok hms hcl hOl hc hc' hy hr hq hr0
        generalize blkS (maskB K m0 m1 q) = mt at *
        obtain ⟨M, hM⟩ : ∃ M, M = maskB K m0 m1 q := ⟨_, rfl⟩
        rw [← hM] at N1 N2
        unfold blkV at N2
        clear hM
        go_wp2_with fail
        refine (unhide N1 _).mono ?_
        rintro e y1 ⟨rfl, d1⟩
        have K1 := hide ((unhide HKS).below d1)
        have B1 := hide ((unhide HNS).below d1)
        have O1 := hide ((unhide HOS).below d1)
        have W1 := hide ((unhide HBS).trans (d1.mono (unhide HBS).size))
        clear HKS HNS HOS HBS d1 k0 k1 k2 k3 b0 b1 b2 b3 f3 oc of N1
        go_wp2_with fail
        refine (unhide N2 _).mono ?_
        rintro e y2 ⟨rfl, d2⟩
        have K2 := hide ((unhide K1).below d2)
        have B2 := hide ((unhide B1).below d2)
        have o2 := (unhide O1).below d2
        have W2 := hide ((unhide W1).trans (d2.mono (unhide W1).size))
        have oc := o2.cell j _ (unhide HCL)
        have of := o2.frozen j (unhide HOL)
        have hs2 := o2.set j (unhide HOL) ((c' ^^^ y : Nat) : Int)
        rw [unhide HST] at hs2
        have O2 := hide hs2
        clear K1 B1 O1 W1 d2 hs2 N2 o2
        generalize c' ^^^ y = zz at *
        go_wp2_with fail
        go_region
        go_wp2
        go_roundw
        case rel => exact ⟨j + 1, mt, q, hlt, by go_num, rfl, unhide HMS, hq32, ((unhide K2).other _ _ (by omega) _).drew, ((unhide B2).other _ _ (by omega) _).drew, (unhide O2).drew, ((unhide W2).setCell (Nat.le_succ_of_le (Nat.le_succ_of_le hgx)) _).drew⟩
        case measure => simp [intOf]; omega
      · have tr : ((r : Int) == 0) = false := by rw [beq_eq_false_iff_ne]; omega
        have hmt := hms (by omega)
        rw [← hq] at hmt
        have hs2 := hO.set j (by rw [hOl]; exact hjl) ((c' ^^^ y : Nat) : Int)
        rw [hst] at hs2
        have HMS := hide (show (j + 1) % 16 ≠ 0 → blkS (maskB K m0 m1 q) = blkS (maskB K m0 m1 ((j + 1) / 16)) from fun h => by rw [show (j + 1) / 16 = q by omega])
        have K2 := hide hKb
        have B2 := hide hNb
        have O2 := hide hs2
        have W2 := hide hbel
        subst hmt
        clear hKb hNb hO hbel hs2 hst hMok hms hcl hOl hc hc' hy hr hq hr0
        generalize blkS (maskB K m0 m1 q) = mt at *
        generalize c' ^^^ y = zz at *
        go_wp2_with fail
        go_region
        go_wp2
        go_roundw
        case rel => exact ⟨j + 1, mt, x, hlt, by go_num, rfl, unhide HMS, hx, ((unhide K2).other _ _ (by omega) _).drew, ((unhide B2).other _ _ (by omega) _).drew, (unhide O2).drew, ((unhide W2).setCell (Nat.le_succ_of_le (Nat.le_succ_of_le hgx)) _).drew⟩
        case measure => simp [intOf]; omega
    · have hjn : j = s.size := by omega
      subst hjn
      rw [← hll, hidAt_whole] at hO
      have hcells : ∀ i, i < s.size → wr.cell? ⟨g + 1 + 1, 0 + i, none⟩ = some (.int .u8 ((hidL (maskAt K m0 m1) l).getD i 0)) := by
        intro i hi
        have hil : i < (hidL (maskAt K m0 m1) l).length := by rw [hidL_length, hll]; exact hi
        rw [Nat.zero_add, hO.cell i _ (List.getElem?_eq_getElem hil)]
        simp [List.getElem?_eq_getElem hil]
      have hcv := run_convert_bytes_arg (P := Try.prog) wr 76 5 Try.underlying76 Try.underlying5 (g + 1 + 1) 0 s.size cap _ (by rw [hidL_length, hll]) hcells 9 Try.underlying9
      have HFf := unhide HF
      rw [← unhide HL] at HFf
      rw [← HFf] at hcv
      clear hcells hO hKb hNb hms HF HFf
      go_wp2
      go_ret2
      exact ⟨rfl, hbel⟩
end Go.Proofs.Ytlnoilfnpgogbag
