/- BlakePieces' walk, of what isn't refused. -/
import Derived.Test.YtolaofoffakddaaDoorP1
namespace Go.Proofs.YtolaofoffakddaaDoor
open Go.RowKit

set_option maxHeartbeats 16000000 in
set_option maxRecDepth 20000 in
theorem pieces_ok (s : ByteArray) (L : Nat) (op : Option Addr) (np cp : Nat) (A : Nat → Option Addr) (Ln C : Nat → Nat) (F : Nat → Nat → Nat) (hL1 : 1 ≤ L) (hL2 : L ≤ 64) (hs : s.size ≤ 16) (hnp : np ≤ 50) (hLn : ∀ r, r < np → Ln r ≤ 140737488351232) (hF : ∀ r i, F r i < 256) (w : World) (hg : GlobB w) (hp : Pcs w op np A Ln C F) :
    Calls Tryd.prog 4 #[.string s, .int .i64 (L : Int), .slice op np cp] w fun e w' => e = .returned (.bool true) ∧ Below w.heap.size w w' := by
  obtain ⟨i0, hi, hz0, hz1, hz2⟩ := byteInfo
  have HI := (show Hid _ from hi); have HZ := (show Hid _ from And.intro hz0 (And.intro hz1 hz2)); clear hi hz0 hz1 hz2
  have HG : Hid (GlobB w) := hg
  have HP : Hid (Pcs w op np A Ln C F) := hp
  have HPB : Hid (∀ r i, PB Ln F r i < 256) := PB_lt Ln F hF
  have HL := (show Hid _ from And.intro hL1 hL2)
  have HLN := (show Hid _ from hLn)
  have HNW : Hid (∀ w : World, GlobB w → _) := fun w hg => new_any s L hL1 hL2 hs w hg
  have HRS : Hid (∀ (n : Nat) (v : Value) (f : Nat → Nat) (w : World), n ≤ 100000 → (∀ i, f i < 256) → Bs w v n f → _) := fun n v f w hn hf hv => rsum_any s L n v f hL1 hL2 hs hn hf w hv
  have HST : Hid (∀ i, bgS L (pS s) s.size i < 18446744073709551616) := bgS_lt L (pS s) s.size (by omega)
  obtain ⟨st, est⟩ : ∃ st, st = bgS L (pS s) s.size := ⟨_, rfl⟩
  rw [← est] at HNW HRS HST
  have hn50 : ¬ (50 : Int) < (np : Int) := by omega
  clear hg hp hF est hs hL1 hL2 hLn
  go_enter Tryd.func4, Tryd.ntmps4
  go_wp2_with fail
  refine (aliveB_any _ HG.out).mono ?_
  rintro e w1 ⟨rfl, hb1⟩
  go_wp2_with fail
  refine (HNW.out w1 (HG.out.below hb1)).mono ?_
  rintro e w2 ⟨d, rfl, hd, bD, hb2⟩
  have hb2' := bStep hb1 hb2
  have hwd : w.heap.size ≤ d := Nat.le_trans hb1.size hd
  have HD2 : Hid (Dg w2 d L st (PB Ln F 0) (PL Ln 0)) := Dg.new bD
  clear bD hb1 hb2 hd
  go_wp2_with fail
  refine (HRS.out 0 (.slice none 0 0) (fun _ => 0) w2 (by decide) (fun _ => (by show (0 : Nat) < 256; decide)) (nilBs _ _)).mono ?_
  rintro e w3 ⟨o3, rfl, _, hb3⟩
  have hb3' := bStep hb2' hb3
  have HD3 : Hid (Dg w3 d L st (PB Ln F 0) (PL Ln 0)) := HD2.out.below hb3
  clear HD2 hb3 hb2'
  go_upto_region 9 with fail
  have hd3 := HD3.out.lt
  have HO : Hid ((w3.alloc (.cells #[] 5)).ownsRow (d + 1) 5 1 (.slice (some ⟨w3.heap.size, 0, none⟩) 0 0) (PL Ln 0) (bys (PB Ln F 0) (PL Ln 0))) :=
    ⟨rfl, Or.inr ⟨w3.heap.size, 0, #[], rfl, hd3, new_block' _ _, Nat.le_refl _, by decide, rfl, rfl⟩⟩
  have HD4 : Hid (Dg (w3.alloc (.cells #[] 5)) d L st (PB Ln F 0) (PL Ln 0)) := HD3.out.below ((Below.refl _ _).alloc (Nat.le_refl _) _)
  have hb4 := bAlloc hb3' (.cells #[] 5)
  clear HD3 hd3
  go_wp2
  go_loopw [11, 12] (fun all iv wr => ∃ r : Nat, iv = .int .i64 (r : Int) ∧ r ≤ np ∧ PL Ln r ≤ 5000 ∧ Below w.heap.size w wr ∧ Hid (Dg wr d L st (PB Ln F r) (PL Ln r)) ∧ Hid (wr.ownsRow (d + 1) 5 1 all (PL Ln r) (bys (PB Ln F r) (PL Ln r)))) (fun _ iv _ => np - (intOf iv).toNat)
  case atStart => exact ⟨0, rfl, Nat.zero_le _, Nat.zero_le _, hb4, HD4, HO⟩
  case round =>
    obtain ⟨r, rfl, hr, hN5, hbr, HDr, HOr⟩ := hrel
    clear HD4 HO hb4 hb3'
    obtain ⟨wp, hwp⟩ : ∃ x, x = wr := ⟨_, rfl⟩
    rw [← hwp] at hbr HDr HOr ⊢
    clear hwp
    obtain ⟨oal, cal, rfl, _⟩ := own_form HOr.out
    have EPL : Hid (PL Ln (r + 1) = PL Ln r + Ln r) := rfl
    have EPB : Hid (PB Ln F (r + 1) = catB (PL Ln r) (PB Ln F r) (F r)) := rfl
    have HBR : Hid (∀ i, PB Ln F (r + 1) i < 256) := HPB.out (r + 1)
    have HBR0 : Hid (∀ i, PB Ln F r i < 256) := HPB.out r
    obtain ⟨N, eN⟩ : ∃ N, N = PL Ln r := ⟨_, rfl⟩
    obtain ⟨B, eB⟩ : ∃ B, B = PB Ln F r := ⟨_, rfl⟩
    rw [← eN] at hN5 HDr HOr EPL EPB ⊢
    rw [← eB] at HDr HOr EPB HBR0
    have EN := (show Hid _ from eN); have EB := (show Hid _ from eB)
    clear eN eB
    by_cases hlt : r < np
    · have hri : (r : Int) < (np : Int) := by omega
      have hr0 : (0 : Int) ≤ (r : Int) := by omega
      obtain ⟨a0, e0, hal0, _, hz0⟩ := HP.out r hlt
      obtain ⟨a, rfl, hal, hcell, hz⟩ := HP.out.below hbr r hlt
      have e1 : a0 = a := by cases e0; rfl
      rw [e1] at hal0
      have HAD : Hid (a.block ≠ d) := by show _ ≠ _; omega
      obtain ⟨oa, eoa⟩ : ∃ oa, oa = A r := ⟨_, rfl⟩
      obtain ⟨m, em⟩ : ∃ m, m = Ln r := ⟨_, rfl⟩
      obtain ⟨cm, ecm⟩ : ∃ cm, cm = C r := ⟨_, rfl⟩
      obtain ⟨f, ef⟩ : ∃ f, f = F r := ⟨_, rfl⟩
      rw [← eoa, ← em, ← ecm] at hcell
      rw [← eoa, ← em, ← ecm, ← ef] at hz hz0
      have HZ0 : Hid (Bz w oa m cm f) := hz0
      rw [← em] at EPL
      rw [← ef] at EPB
      have HZZ : Hid (Bz wp oa m cm f) := hz
      have HCL : Hid (wp.cell? (a.add r) = some (.slice oa m cm)) := hcell
      have hmx : m ≤ 140737488351232 := by rw [em]; exact HLN.out r hlt
      have hwNm : IntKind.i64.wrap ((N : Int) + (m : Int)) = (N : Int) + (m : Int) := by rw [IntKind.wrap_i64]; omega
      clear eoa em ecm ef hz hz0 hal0 e0 e1
      by_cases h5 : N + m ≤ 5000
      · have h5i : ¬ (5000 : Int) < (N : Int) + (m : Int) := by omega
        have hrl := HDr.out.lt
        have HAL := (show Hid _ from own_lt HOr.out)
        go_wp2_with fail
        refine (copy_Z m cm oa f (by omega) wp HZZ.out).mono ?_
        rintro e v1w ⟨v1, rfl, hown1, hb1⟩
        obtain ⟨w4, hw4⟩ : ∃ x, x = v1w := ⟨_, rfl⟩
        rw [← hw4] at hown1 hb1 ⊢
        clear hw4
        have HB1 : Hid (Bs w4 v1 m (fun i => PB Ln F (r + 1) (N + i))) := by
          show Bs _ _ _ _
          refine (own_Bs hown1).congr (fun i hi => ?_)
          rw [EPB.out]; unfold catB
          rw [if_neg (by omega), Nat.add_sub_cancel_left]
        have D4 : Hid (Dg w4 d L st (PB Ln F (r + 1)) N) := by
          show Dg _ _ _ _ _ _
          exact (HDr.out.below hb1).congr (fun i hi => by rw [EPB.out]; unfold catB; rw [if_pos hi])
        have hadr := own_addr hown1
        have G4 : GlobB w4 := HG.out.below (bStep hbr hb1)
        have WR := write_any d L N m v1 st (PB Ln F (r + 1)) HST.out HBR.out (by omega) (Nat.le_trans HG.out.1 hwd) w4 G4 D4.out HB1.out (fun a' m' c' e => by have := hadr a' m' c' e; omega)
        have HWR := (show Hid _ from fun (_ : Unit) => WR)
        obtain ⟨o1, c1, rfl, hfm⟩ := own_form hown1
        have HFM := (show Hid _ from hfm)
        have HB14 : Hid (Below wp.heap.size wp w4) := hb1
        clear WR D4 HB1 hadr G4 hown1 hfm hb1
        go_wp2_with fail
        refine (HWR.out ()).mono ?_
        rintro e w5 ⟨rfl, hK5, D5⟩
        have HK5 : Hid (Kept d w4 w5) := hK5
        have HD5 : Hid (Dg w5 d L st (PB Ln F (r + 1)) (N + m)) := D5
        clear HWR hK5 D5
        go_wp2
        go_loopw [14] (fun jv wr => ∃ k : Nat, jv = .int .i64 (k : Int) ∧ k ≤ m ∧ Below wp.heap.size w5 wr ∧ Hid (m ≠ 0 → ∃ g gf, o1 = some ⟨g, 0, none⟩ ∧ m ≤ c1 ∧ wp.heap.size ≤ g ∧ BlkV wr 5 g c1 gf)) (fun jv _ => m - (intOf jv).toNat)
        case atStart =>
          refine ⟨0, rfl, Nat.zero_le _, Below.refl _ _, fun hm => ?_⟩
          obtain ⟨g, gf, h1, h2, h3, h4⟩ := HFM.out hm
          exact ⟨g, gf, h1, h2, h3, h4.same (HK5.out.block g h4.lt (by omega))⟩
        case round =>
          obtain ⟨k, rfl, hk, hbq, HFQ⟩ := hrel
          by_cases hkm : k < m
          · have hki : (k : Int) < (m : Int) := by omega
            have hk0 : (0 : Int) ≤ (k : Int) := by omega
            obtain ⟨g, gf, rfl, hmc, hgw, bG⟩ := HFQ.out (by omega)
            have cG := bG.cell k (by omega); have fG := bG.frozen
            have HBG : Hid (BlkV wr 5 g c1 gf) := bG
            have hgl := bG.lt
            clear bG HFQ HFM
            go_wp2
            go_roundw
            case measure => simp [intOf]; omega
            case rel =>
              refine ⟨k + 1, by go_num, by omega, hbq.setCell (by dsimp only; omega) _, fun _ => ⟨g, _, rfl, hmc, hgw, HBG.out.set k (by omega) _⟩⟩
          · have hki : ¬ (k : Int) < (m : Int) := by omega
            have hbwq : Hid (Below w.heap.size w wr) := by
              show Below _ _ _
              have h1 : Below w.heap.size w w5 := (bStep hbr HB14.out).trans (HK5.out.below hwd (Nat.le_trans hbr.size HB14.out.size))
              exact h1.trans (hbq.mono hbr.size)
            have hszq : wp.heap.size ≤ wr.heap.size := Nat.le_trans HB14.out.size (Nat.le_trans HK5.out.size hbq.size)
            have HDq : Hid (Dg wr d L st (PB Ln F (r + 1)) (N + m)) := by
              show Dg _ _ _ _ _ _
              exact HD5.out.same (hbq.block d hrl)
            have HOq : Hid (wr.ownsRow (d + 1) 5 1 (.slice oal N cal) N (bys B N)) := by
              refine own_same HOr.out (fun j hj => ?_)
              obtain ⟨h1, h2⟩ := HAL.out j hj
              rw [hbq.block j h2, HK5.out.block j (Nat.lt_of_lt_of_le h2 HB14.out.size) (by omega), HB14.out.block j h2]
            have hcq : wr.cell? (a.add r) = some (.slice oa m cm) := by
              have hab : (a.add r).block < wp.heap.size := by rw [add_block]; exact hal
              have hle4 := HB14.out.size
              have hne : (a.add r).block ≠ d := by rw [add_block]; exact HAD.out
              have hab4 : (a.add r).block < w4.heap.size := Nat.lt_of_lt_of_le hab hle4
              rw [hbq.cell (p := a.add r) hab, HK5.out.cell (p := a.add r) hab4 hne, HB14.out.cell (p := a.add r) hab]
              exact HCL.out
            have HZQ : Hid (Bz wr oa m cm f) := by
              show Bz _ _ _ _ _
              obtain ⟨h1, h2, h3, h4⟩ := HZ0.out
              refine ⟨h1, h2, h3, fun a' e i hi => ?_⟩
              obtain ⟨k1, k2⟩ := h4 a' e i hi
              have hb0 := hbwq.out
              exact ⟨Nat.lt_of_lt_of_le k1 hb0.size, by rw [hb0.cell (p := a'.add i) (by rw [add_block]; exact k1)]; exact k2⟩
            have hdq : d + 1 ≤ wr.heap.size := HDq.out.lt
            obtain ⟨q, hq⟩ : ∃ x, x = wr := ⟨_, rfl⟩
            rw [← hq] at hbwq hszq HDq HOq hcq HZQ hdq ⊢
            clear hq hbq HFQ HFM HD5 HK5 HB14 HDr HOr HZZ HAL HCL HZ0
            go_upto_region 21 with fail
            go_cut [11] (fun v wx => ∃ v', v = v' ∧ wx.ownsRow (d + 1) 5 1 v' (N + m) (bys (catB N B f) (N + m)) ∧ Below (d + 1) q wx)
            case first =>
              cases oa with
              | none =>
                obtain ⟨rfl, rfl⟩ := HZQ.out.2.2.1 rfl
                go_wp2_with (first
                  | (at_builtin; refine wpList_append_own_none rfl _ _ 22 rfl (d + 1) 5 i0 1 Tryd.underlying22 HI.out _ _ _ rfl HOq.out rfl ?_)
                  | go_in)
                go_wp2
                go_meet
                refine ⟨_, rfl, ?_, Below.refl _ _⟩
                have h := bys_cat N 0 B f
                rw [show bys f 0 = [] from rfl, List.append_nil] at h
                rw [← h]
                exact HOq.out
              | some a' =>
                go_wp2_with (first
                  | (at_builtin; refine wpList_append_own _ rfl _ _ 22 rfl (d + 1) 5 i0 (.int .u8 0) 1 1 Tryd.underlying22 HI.out HZ.out.1 HZ.out.2.1 HZ.out.2.2 rfl (by decide) _ _ _ rfl HOq.out a' m _ (bys f m) rfl ?c0 ?c1 ?c2 ?c3 ?c4 ?c5 ?_)
                  | go_in)
                case c0 => simp [bys_len]
                case c1 =>
                  intro j u hj
                  have hjn : j < m := by
                    rcases Nat.lt_or_ge j m with h | h
                    · exact h
                    · rw [List.getElem?_eq_none (by rw [bys_len]; exact h)] at hj; cases hj
                  rw [bys_get f m j hjn] at hj
                  cases hj
                  exact (HZQ.out.2.2.2 a' rfl j hjn).2
                case c2 => intro u hu; unfold bys at hu; obtain ⟨i, _, rfl⟩ := List.mem_map.mp hu; rfl
                case c3 => unfold maxLen; omega
                case c4 => omega
                intro v' w13 hown' hgrow _
                go_wp2
                go_meet
                refine ⟨v', rfl, ?_, (Below.refl _ _).grown hgrow hdq (fun j hj => own_block_ge' HOq.out hj)⟩
                rw [← bys_cat]
                exact hown'
            obtain ⟨v6, e6, hown6, hb6⟩ := hcut
            rw [e6]
            clear e6
            obtain ⟨w6, hw6⟩ : ∃ x, x = wc := ⟨_, rfl⟩
            rw [← hw6] at hown6 hb6 ⊢
            clear hw6
            rw [← EPB.out] at hown6
            have HO6 : Hid (w6.ownsRow (d + 1) 5 1 v6 (N + m) (bys (PB Ln F (r + 1)) (N + m))) := hown6
            have D6 : Dg w6 d L st (PB Ln F (r + 1)) (N + m) := HDq.out.same (hb6.block d (Nat.lt_succ_self d))
            have hb6' : Below w.heap.size w w6 := hbwq.out.trans (hb6.mono (by omega))
            have hb6S : Hid (w.heap.size ≤ w6.heap.size) := hb6'.size
            have SD := sumD_any d L (N + m) st (PB Ln F (r + 1)) HST.out (by omega) HL.out.1 HL.out.2 w6 (HG.out.below hb6') D6
            have HSD := (show Hid _ from fun (_ : Unit) => SD)
            have HD6 : Hid (Dg w6 d L st (PB Ln F (r + 1)) (N + m)) := D6
            have B6 : Hid (Bs w6 v6 (N + m) (PB Ln F (r + 1))) := own_Bs hown6
            clear SD D6 hown6 HOq HDq hcq HZQ hbwq hszq hdq hb6
            go_wp2_with fail
            refine (HSD.out ()).mono ?_
            rintro e w7 ⟨g, rfl, hg7, bG7, hb7⟩
            have hb7' := bStep hb6' hb7
            have HBG7 : Hid (BlkB w7 5 g L (outB (fin st (PB Ln F (r + 1)) (N + m)))) := bG7
            have HB7 : Hid (Below w6.heap.size w6 w7) := hb7
            clear HSD bG7 hb7 hb6'
            go_wp2_with fail
            refine (HRS.out (N + m) v6 (PB Ln F (r + 1)) w7 (by omega) HBR.out (B6.out.below HB7.out)).mono ?_
            rintro e w8 ⟨y, rfl, hown8, hb8⟩
            have hb8' := bStep hb7' hb8
            have HBG8 : Hid (BlkB w8 5 g L (outB (fin st (PB Ln F (r + 1)) (N + m)))) := HBG7.out.belowAll hb8
            have HY8 : Hid (Bs w8 y L (outB (fin st (PB Ln F (r + 1)) (N + m)))) := own_Bs hown8
            have HB8 : Hid (Below w6.heap.size w6 w8) := bStep HB7.out hb8
            clear hown8 hb8 HBG7 HB7 hb7' B6
            go_wp2_with fail
            refine (same_selfB _ _ L _ _ (HBG8.out.Bs (by have := HL.out.2; unfold maxLen; omega)) HY8.out).mono ?_
            rintro e w9 ⟨rfl, hb9⟩
            have hb9' := bStep hb8' hb9
            have HBG9 : Hid (BlkB w9 5 g L (outB (fin st (PB Ln F (r + 1)) (N + m)))) := HBG8.out.belowAll hb9
            have HB9 : Hid (Below w6.heap.size w6 w9) := bStep HB8.out hb9
            have hLL := HL.out.2
            clear hb9 HBG8 HY8 HB8 hb8'
            go_wp2
            go_loopw [18] (fun jv wr => ∃ k : Nat, jv = .int .i64 (k : Int) ∧ k ≤ L ∧ Below w6.heap.size w6 wr ∧ Below w.heap.size w wr ∧ Hid (∃ ff, BlkB wr 5 g L ff)) (fun jv _ => L - (intOf jv).toNat)
            case atStart => exact ⟨0, rfl, Nat.zero_le _, HB9.out, hb9', ⟨_, HBG9.out⟩⟩
            case round =>
              obtain ⟨k, rfl, hk, hbq6, hbqw, HFF⟩ := hrel
              clear HBG9 HB9 hb9'
              by_cases hkm : k < L
              · have hki : (k : Int) < (L : Int) := by omega
                have hk0 : (0 : Int) ≤ (k : Int) := by omega
                obtain ⟨ff, bG⟩ := HFF.out
                have cG := bG.cell k (by omega); have fG := bG.frozen
                have HBG : Hid (BlkB wr 5 g L ff) := bG
                clear bG HFF
                go_wp2
                go_roundw
                case measure => simp [intOf]; omega
                case rel =>
                  refine ⟨k + 1, by go_num, by omega, hbq6.setCell (by dsimp only; omega) _, hbqw.setCell (by have := hb6S.out; dsimp only; omega) _, ⟨_, HBG.out.set k hkm 7⟩⟩
              · have hki : ¬ (k : Int) < (L : Int) := by omega
                go_wp2
                go_roundw
                case measure => simp [intOf]; omega
                case rel =>
                  refine ⟨r + 1, by go_num, by omega, by rw [EPL.out]; omega, hbqw, ?_, ?_⟩
                  · rw [EPL.out]
                    exact HD6.out.below hbq6
                  · rw [EPL.out]
                    exact own_same HO6.out (fun j hj => hbq6.block j (own_lt HO6.out j hj).2)
      · have h5i : (5000 : Int) < (N : Int) + (m : Int) := by omega
        go_wp2
        (try simp only [Exit.inBlock, Exit.then])
        go_ret
        exact ⟨rfl, hbr⟩
    · have hri : ¬ (r : Int) < (np : Int) := by omega
      have SD := fun (W : World) (hb : Below wp.heap.size wp W) => sumD_any d L N st B HST.out (by omega) HL.out.1 HL.out.2 W (HG.out.below (bStep hbr hb)) (HDr.out.below hb)
      have HSD := (show Hid _ from SD)
      have B6 : Hid (Bs wp (.slice oal N cal) N B) := own_Bs HOr.out
      clear SD
      go_wp2_with fail
      refine (HRS.out N (.slice oal N cal) B wp (by omega) HBR0.out B6.out).mono ?_
      rintro e w8 ⟨y, rfl, hown8, hb8⟩
      have hb8' := bStep hbr hb8
      have HY8 : Hid (Bs w8 y L (outB (fin st B N))) := own_Bs hown8
      go_wp2_with fail
      refine (HSD.out _ hb8).mono ?_
      rintro e w9 ⟨g, rfl, hg9, bG9, hb9⟩
      have hb9' := bStep hb8' hb9
      have HY9 : Hid (Bs w9 y L (outB (fin st B N))) := HY8.out.below hb9
      have HG9 : Hid (BlkB w9 5 g L (outB (fin st B N))) := bG9
      clear bG9 hown8 hb8 hb9 hb8'
      go_wp2_with fail
      refine (same_selfB _ _ L _ _ (HG9.out.Bs (by have := HL.out.2; unfold maxLen; omega)) HY9.out).mono ?_
      rintro e w10 ⟨rfl, hb10⟩
      have hb10' := bStep hb9' hb10
      clear hb10 HG9 HY9
      go_wp2
      (try simp only [Exit.inBlock, Exit.then])
      go_ret
      exact ⟨rfl, hb10'⟩

end Go.Proofs.YtolaofoffakddaaDoor
