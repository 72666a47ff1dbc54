/- The walk of the statement on two digests. -/
import Derived.Test.YtolaofoffakddaaDoorB15
import Derived.Test.YtolaofoffakddaaDoorB16
import Derived.Test.YtolaofoffakddaaDoorY8B
namespace Go.Proofs.YtolaofoffakddaaDoor
open Go.RowKit

theorem own_addr {w : World} {base n : Nat} {v : Value} {xs : List Value} (h : w.ownsRow base 5 1 v n xs) : ∀ a m c, v = .slice (some a) m c → base ≤ a.block := by
  intro a m c e
  obtain ⟨_, h⟩ := h
  rcases h with ⟨h, _⟩ | ⟨g, c', cur, h, hb, _⟩
  · rw [h] at e; cases e
  · rw [h] at e; cases e; exact hb
theorem Bs.congr {w : World} {v : Value} {n : Nat} {f g : Nat → Nat} (h : Bs w v n f) (hg : ∀ i, i < n → g i = f i) : Bs w v n g := by
  rcases h with h | ⟨a, c, hv, h1, h2, h3, h4⟩
  · exact Or.inl h
  · exact Or.inr ⟨a, c, hv, h1, h2, h3, fun i hi => by rw [h4 i hi, hg i hi]⟩
theorem Bs.kept {w w' : World} {g n : Nat} {v : Value} {f : Nat → Nat} (h : Bs w v n f) (hK : Kept g w w') (hne : ∀ a m c, v = .slice (some a) m c → a.block ≠ g) : Bs w' v n f := by
  rcases h with h | ⟨a, c, hv, h1, h2, h3, h4⟩
  · exact Or.inl h
  · refine Or.inr ⟨a, c, hv, h1, h2, Nat.lt_of_lt_of_le h3 hK.size, fun i hi => ?_⟩
    rw [hK.cell (by rw [add_block]; exact h3) (by rw [add_block]; exact hne a _ c hv)]
    exact h4 i hi
/-- The bytes of f, then those of g. -/
def catB (n : Nat) (f g : Nat → Nat) (i : Nat) : Nat := if i < n then f i else g (i - n)
theorem bys_cat (n m : Nat) (f g : Nat → Nat) : bys f n ++ bys g m = bys (catB n f g) (n + m) := by
  apply List.ext_getElem?
  intro i
  rcases Nat.lt_or_ge i n with h | h
  · rw [List.getElem?_append_left (by rw [bys_len]; exact h), bys_get _ _ _ h, bys_get _ _ _ (by omega)]
    unfold catB; rw [if_pos h]
  · rw [List.getElem?_append_right (by rw [bys_len]; exact h), bys_len]
    rcases Nat.lt_or_ge i (n + m) with h2 | h2
    · rw [bys_get _ _ _ (by omega), bys_get _ _ _ h2]
      unfold catB; rw [if_neg (by omega)]
    · rw [List.getElem?_eq_none (by rw [bys_len]; omega), List.getElem?_eq_none (by rw [bys_len]; omega)]

set_option maxHeartbeats 8000000 in
set_option maxRecDepth 20000 in
theorem two_some (oa ob : Option Addr) (n m ca cb : Nat) (fa fb : Nat → Nat) (s : ByteArray) (hfa : ∀ i, fa i < 256) (hfb : ∀ i, fb i < 256) (hn : n ≤ 140737488351232) (hm : m ≤ 140737488351232) (w : World) (hg : GlobB w)
    (hva : Bs w (.slice oa n ca) n fa) (hvb : Bs w (.slice ob m cb) m fb) :
    Calls Tryd.prog 5 #[.slice oa n ca, .slice ob m cb, .string s] w fun e w' => e = .returned (.bool true) ∧ Below w.heap.size w w' := by
  obtain ⟨i0, hi, hz0, hz1, hz2⟩ := byteInfo
  have HI := (show Hid _ from hi); have HZ := (show Hid _ from And.intro hz0 (And.intro hz1 hz2)); clear hi hz0 hz1 hz2
  have A := aliveB_any w hg
  have HA := (show Hid _ from fun (_ : Unit) => A)
  have HG : Hid (GlobB w) := hg
  have HVA : Hid (Bs w (.slice oa n ca) n fa) := hva; have HVB : Hid (Bs w (.slice ob m cb) m fb) := hvb
  have HFA := (show Hid _ from hfa); have HFB := (show Hid _ from hfb)
  have hcat : ∀ i, catB n fa fb i < 256 := fun i => by unfold catB; split; exact hfa _; exact hfb _
  have HCT := (show Hid _ from hcat)
  have HST : Hid (∀ i, bgS 32 (pS s) s.size i < 18446744073709551616) := bgS_lt 32 (pS s) s.size (by decide)
  obtain ⟨st, est⟩ : ∃ st, st = bgS 32 (pS s) s.size := ⟨_, rfl⟩
  have HNW : Hid (∀ w : World, s.size ≤ 16 → GlobB w → _) := fun w h16 hg => new_any s 32 (by decide) (by decide) h16 w hg
  have HSM : Hid (∀ (n : Nat) (v : Value) (f : Nat → Nat) (w : World), s.size ≤ 16 → n ≤ 100000 → (∀ i, f i < 256) → GlobB w → Bs w v n f → _) := fun n v f w h16 hn hf hg hv => sum_any s 32 n v f (by decide) (by decide) h16 hn hf w hg hv
  rw [show (((32 : Nat)) : Int) = 32 from rfl] at HNW HSM
  rw [← est] at HST HNW HSM
  obtain ⟨k, ek⟩ : ∃ k, k = s.size := ⟨_, rfl⟩
  have hsz : s.size = k := ek.symm
  rw [hsz] at HNW HSM
  clear A hg hva hvb hfa hfb hcat est ek
  go_enter Tryd.func5, Tryd.ntmps5
  go_wp2_with fail
  refine (HA.out ()).mono ?_
  rintro e w1 ⟨rfl, hb1⟩
  clear HA
  by_cases h16 : k ≤ 16
  · by_cases h5 : n + m ≤ 5000
    · have h16i : ¬ (16 : Int) < (k : Int) := by omega
      have h5i : ¬ (5000 : Int) < (n : Int) + (m : Int) := by omega
      have G1 := HG.out.below hb1
      have N1 := HNW.out w1 h16 G1
      have HN1 := (show Hid _ from fun (_ : Unit) => N1)
      have HG1 : Hid (GlobB w1) := G1
      clear N1 G1
      go_wp2_with fail
      refine (HN1.out ()).mono ?_
      rintro e w2 ⟨d, rfl, hd, bD, hb2⟩
      have G2 := HG1.out.below hb2
      have N2 := HNW.out w2 h16 G2
      have HN2 := (show Hid _ from fun (_ : Unit) => N2)
      have HG2 : Hid (GlobB w2) := G2
      clear N2 G2 HN1
      go_wp2_with fail
      refine (HN2.out ()).mono ?_
      rintro e w3 ⟨q, rfl, hq, bE, hb3⟩
      have G3 : Hid (GlobB w3) := HG2.out.below hb3
      have D3 : Hid (Dg w3 d 32 st (catB n fa fb) 0) := (Dg.new bD).below hb3
      have E3 : Hid (Dg w3 q 32 st fb 0) := Dg.new bE
      have b13 := bStep (bStep hb1 hb2) hb3
      have hd2 : 2 ≤ d := Nat.le_trans (Nat.le_trans HG.out.1 hb1.size) hd
      have hdl := bD.lt
      have hdq : d ≠ q := by omega
      have hql := E3.out.lt
      have hw1 := hb1.size
      have VA3 := HVA.out.below b13; have VB3 := HVB.out.below b13
      have HVA3 : Hid (Bs w3 (.slice oa n ca) n fa) := VA3; have HVB3 : Hid (Bs w3 (.slice ob m cb) m fb) := VB3
      have C1 := copy_any n _ fa hn w3 VA3
      have HC1 := (show Hid _ from fun (_ : Unit) => C1)
      have nda := HVA.out.block; have ndb := HVB.out.block
      have HNDA := (show Hid _ from nda); have HNDB := (show Hid _ from ndb)
      have l23 := hb3.size
      have HHN := (show Hid _ from And.intro hn hm)
      clear C1 VA3 VB3 HN2 bD bE nda ndb
      go_wp2_with fail
      refine (HC1.out ()).mono ?_
      rintro e w4 ⟨v1, rfl, o1, hb4⟩
      have W1 := write_any d 32 0 n v1 st (catB n fa fb) HST.out HCT.out (by omega) hd2 w4 (G3.out.below hb4) (D3.out.below hb4) ((own_Bs o1).congr (fun i hi => by unfold catB; rw [Nat.zero_add, if_pos hi])) (fun a m' c e => by have := own_addr o1 a m' c e; omega)
      have HW1 := (show Hid _ from fun (_ : Unit) => W1)
      clear W1 HC1 o1
      go_wp2_with fail
      refine (HW1.out ()).mono ?_
      rintro e w5 ⟨rfl, K5, D5⟩
      rw [Nat.zero_add] at D5
      have G5 : Hid (GlobB w5) := K5.glob hd2 (G3.out.below hb4)
      have E5 : Hid (Dg w5 q 32 st fb 0) := (E3.out.below hb4).kept K5 (Ne.symm hdq)
      have HD5 : Hid (Dg w5 d 32 st (catB n fa fb) n) := D5
      have VA5 : Hid (Bs w5 (.slice oa n ca) n fa) := (HVA3.out.below hb4).kept K5 (fun a m' c e => by have := HNDA.out a m' c e; omega)
      have VB5 : Hid (Bs w5 (.slice ob m cb) m fb) := (HVB3.out.below hb4).kept K5 (fun a m' c e => by have := HNDB.out a m' c e; omega)
      have l35 : w3.heap.size ≤ w5.heap.size := Nat.le_trans hb4.size K5.size
      have b15 : Below w.heap.size w w5 := (bStep b13 hb4).trans (K5.below (by omega) (Nat.le_trans b13.size hb4.size))
      have C2 := copy_any m _ fb HHN.out.2 w5 VB5.out
      have HC2 := (show Hid _ from fun (_ : Unit) => C2)
      clear C2 HW1 D5 K5 hb4 D3 E3 G3 HVA3 HVB3 hb3 hb2 hb1
      go_wp2_with fail
      refine (HC2.out ()).mono ?_
      rintro e w6 ⟨v2, rfl, o2, hb6⟩
      have W2 := write_any q 32 0 m v2 st fb HST.out HFB.out (by omega) (by omega) w6 (G5.out.below hb6) (E5.out.below hb6) ((own_Bs o2).congr (fun i _ => by rw [Nat.zero_add])) (fun a m' c e => by have := own_addr o2 a m' c e; omega)
      have HW2 := (show Hid _ from fun (_ : Unit) => W2)
      clear W2 HC2 o2
      go_wp2_with fail
      refine (HW2.out ()).mono ?_
      rintro e w7 ⟨rfl, K7, E7⟩
      rw [Nat.zero_add] at E7
      have G7 : Hid (GlobB w7) := K7.glob (by omega) (G5.out.below hb6)
      have D7 : Hid (Dg w7 d 32 st (catB n fa fb) n) := (HD5.out.below hb6).kept K7 hdq
      have HE7 : Hid (Dg w7 q 32 st fb m) := E7
      have VA7 : Hid (Bs w7 (.slice oa n ca) n fa) := (VA5.out.below hb6).kept K7 (fun a m' c e => by have := HNDA.out a m' c e; omega)
      have VB7 : Hid (Bs w7 (.slice ob m cb) m fb) := (VB5.out.below hb6).kept K7 (fun a m' c e => by have := HNDB.out a m' c e; omega)
      have l57 : w5.heap.size ≤ w7.heap.size := Nat.le_trans hb6.size K7.size
      have b17 : Below w.heap.size w w7 := (bStep b15 hb6).trans (K7.below (by omega) (Nat.le_trans b15.size hb6.size))
      have C3 := copy_any m _ fb HHN.out.2 w7 VB7.out
      have HC3 := (show Hid _ from fun (_ : Unit) => C3)
      clear C3 HW2 E7 K7 hb6 HD5 E5 G5 VA5 VB5 b15
      go_wp2_with fail
      refine (HC3.out ()).mono ?_
      rintro e w8 ⟨v3, rfl, o3, hb8⟩
      have W3 := write_any d 32 n m v3 st (catB n fa fb) HST.out HCT.out (by omega) hd2 w8 (G7.out.below hb8) (D7.out.below hb8) ((own_Bs o3).congr (fun i _ => by unfold catB; rw [if_neg (by omega), Nat.add_sub_cancel_left])) (fun a m' c e => by have := own_addr o3 a m' c e; omega)
      have HW3 := (show Hid _ from fun (_ : Unit) => W3)
      clear W3 HC3 o3
      go_wp2_with fail
      refine (HW3.out ()).mono ?_
      rintro e w9 ⟨rfl, K9, D9⟩
      have G9 : Hid (GlobB w9) := K9.glob hd2 (G7.out.below hb8)
      have E9 : Hid (Dg w9 q 32 st fb m) := (HE7.out.below hb8).kept K9 (Ne.symm hdq)
      have HD9 : Hid (Dg w9 d 32 st (catB n fa fb) (n + m)) := D9
      have VA9 : Hid (Bs w9 (.slice oa n ca) n fa) := (VA7.out.below hb8).kept K9 (fun a m' c e => by have := HNDA.out a m' c e; omega)
      have VB9 : Hid (Bs w9 (.slice ob m cb) m fb) := (VB7.out.below hb8).kept K9 (fun a m' c e => by have := HNDB.out a m' c e; omega)
      have b19 : Below w.heap.size w w9 := (bStep b17 hb8).trans (K9.below (by omega) (Nat.le_trans b17.size hb8.size))
      have C4 := copy_any m _ fb HHN.out.2 w9 VB9.out
      have HC4 := (show Hid _ from fun (_ : Unit) => C4)
      clear C4 HW3 D9 K9 hb8 D7 HE7 G7 VA7 VB7 b17
      go_wp2_with fail
      refine (HC4.out ()).mono ?_
      rintro e w10 ⟨v4, rfl, o4, hb10⟩
      have S1 := HSM.out m v4 fb w10 h16 (by omega) HFB.out (G9.out.below hb10) (own_Bs o4)
      have HS1 := (show Hid _ from fun (_ : Unit) => S1)
      clear S1 HC4 o4
      go_wp2_with fail
      refine (HS1.out ()).mono ?_
      rintro e w11 ⟨g1, rfl, hg1, bX, hb11⟩
      have b911 := bStep hb10 hb11
      have HX : Hid (BlkB w11 5 g1 32 (outB (fin st fb m))) := bX
      have C5 := copy_any n _ fa HHN.out.1 w11 (VA9.out.below b911)
      have HC5 := (show Hid _ from fun (_ : Unit) => C5)
      have VB11 : Hid (Bs w11 (.slice ob m cb) m fb) := VB9.out.below b911
      clear C5 HS1 bX hb10 hb11 VA9 VB9
      go_wp2_with fail
      refine (HC5.out ()).mono ?_
      rintro e w12 ⟨v5, rfl, o5, hb12⟩
      have HO5 : Hid (w12.ownsRow w11.heap.size 5 1 v5 n (bys fa n)) := o5
      have VB12 := VB11.out.below hb12
      have hh := HHN.out
      clear HC5 o5 VB11
      go_upto_region 14 with fail
      go_cut [13] (fun v wx => ∃ v', v = v' ∧ wx.ownsRow w11.heap.size 5 1 v' (n + m) (bys (catB n fa fb) (n + m)) ∧ Below w11.heap.size w11 wx)
      case first =>
        rcases VB12 with ⟨hv0, hm0⟩ | ⟨a, c, hv0, h1, h2, h3, h4⟩
        · cases hv0
          go_wp2_with (first
            | (at_builtin; refine wpList_append_own_none rfl _ _ 22 rfl w11.heap.size 5 i0 1 Tryd.underlying22 HI.out _ _ _ rfl HO5.out rfl ?_)
            | go_in)
          go_wp2
          go_meet
          refine ⟨v5, rfl, ?_, hb12⟩
          have h := bys_cat n 0 fa fb
          rw [show bys fb 0 = [] from rfl, List.append_nil] at h
          rw [← h]
          exact HO5.out
        · cases hv0
          have H4 := (show Hid _ from h4)
          clear h4
          go_wp2_with (first
            | (at_builtin; refine wpList_append_own _ rfl _ _ 22 rfl w11.heap.size 5 i0 (.int .u8 0) 1 1 Tryd.underlying22 HI.out HZ.out.1 HZ.out.2.1 HZ.out.2.2 rfl (by decide) _ _ _ rfl HO5.out a m _ (bys fb m) rfl ?c0 ?c1 ?c2 ?c3 ?c4 ?c5 ?_)
            | go_in)
          case c0 => rw [bys_len]; omega
          case c1 =>
            intro j u hj
            have hjn : j < m := by
              rcases Nat.lt_or_ge j m with h | h
              · exact h
              · rw [List.getElem?_eq_none (by rw [bys_len]; exact h)] at hj; cases hj
            rw [bys_get fb m j hjn] at hj
            cases hj
            exact H4.out j hjn
          case c2 => intro u hu; unfold bys at hu; obtain ⟨i, _, rfl⟩ := List.mem_map.mp hu; rfl
          case c3 => unfold maxLen; omega
          case c4 => omega
          case c5 => exact hb12.size
          intro v' w13 hown' hgrow _
          go_wp2
          go_meet
          refine ⟨v', rfl, ?_, hb12.grown hgrow hb12.size (fun j hj => own_block_ge' HO5.out hj)⟩
          rw [← bys_cat]
          exact hown'
      obtain ⟨v6, hv6, o6, b1113⟩ := hcut
      rw [hv6]
      clear hv6
      obtain ⟨w13, rfl⟩ : ∃ w13 : World, w13 = wc := ⟨_, rfl⟩
      have G13 : Hid (GlobB w13) := (G9.out.below b911).below b1113
      have E13 : Hid (Dg w13 q 32 st fb m) := (E9.out.below b911).below b1113
      have D13 : Hid (Dg w13 d 32 st (catB n fa fb) (n + m)) := (HD9.out.below b911).below b1113
      have X13 : Hid (BlkB w13 5 g1 32 (outB (fin st fb m))) := HX.out.belowAll b1113
      have b013 := bStep (bStep b19 b911) b1113
      have S2 := HSM.out (n + m) v6 (catB n fa fb) w13 h16 (by omega) HCT.out G13.out (own_Bs o6)
      have HS2 := (show Hid _ from fun (_ : Unit) => S2)
      clear S2 o6 HO5 hb12 VB12 G9 E9 HD9 HX b911 b1113 b19
      go_wp2_with fail
      refine (HS2.out ()).mono ?_
      rintro e w14 ⟨g2, rfl, hg2, bY, hb14⟩
      have SE := sumD_any q 32 m st fb HST.out (by omega) (by decide) (by decide) w14 (G13.out.below hb14) (E13.out.below hb14)
      have HSE := (show Hid _ from fun (_ : Unit) => SE)
      have HY : Hid (BlkB w14 5 g2 32 (outB (fin st (catB n fa fb) (n + m)))) := bY
      clear SE HS2 bY
      go_wp2_with fail
      refine (HSE.out ()).mono ?_
      rintro e w15 ⟨g3, rfl, hg3, bZ, hb15⟩
      have Q1 := same_any _ _ 32 32 _ _ w15 (bZ.Bs (by decide)) (((X13.out.belowAll hb14).belowAll hb15).Bs (by decide))
      rw [show (decide (32 = 32) && sameB (outB (fin st fb m)) (outB (fin st fb m)) 32) = true from by simp [sameB]] at Q1
      have HQ1 := (show Hid _ from fun (_ : Unit) => Q1)
      clear Q1 HSE bZ
      go_wp2_with fail
      refine (HQ1.out ()).mono ?_
      rintro e w16 ⟨rfl, hb16⟩
      have b1416 := bStep hb15 hb16
      have SD := sumD_any d 32 (n + m) st (catB n fa fb) HST.out (by omega) (by decide) (by decide) w16 ((G13.out.below hb14).below b1416) ((D13.out.below hb14).below b1416)
      have HSD := (show Hid _ from fun (_ : Unit) => SD)
      clear SD HQ1
      go_wp2_with fail
      refine (HSD.out ()).mono ?_
      rintro e w17 ⟨g4, rfl, hg4, bW, hb17⟩
      have Q2 := same_any _ _ 32 32 _ _ w17 (bW.Bs (by decide)) (((HY.out.belowAll b1416).belowAll hb17).Bs (by decide))
      rw [show (decide (32 = 32) && sameB (outB (fin st (catB n fa fb) (n + m))) (outB (fin st (catB n fa fb) (n + m))) 32) = true from by simp [sameB]] at Q2
      have HQ2 := (show Hid _ from fun (_ : Unit) => Q2)
      clear Q2 HSD bW
      go_wp2_with fail
      refine (HQ2.out ()).mono ?_
      rintro e w18 ⟨rfl, hb18⟩
      have bE := bStep (bStep (bStep (bStep b013 hb14) b1416) hb17) hb18
      clear HQ2
      go_wp2
      go_ret
      exact ⟨rfl, bE⟩
    · have h16i : ¬ (16 : Int) < (k : Int) := by omega
      have h5i : (5000 : Int) < (n : Int) + (m : Int) := by omega
      go_wp2
      go_ret
      exact ⟨rfl, hb1⟩
  · have h16i : (16 : Int) < (k : Int) := by omega
    go_wp2
    go_ret
    exact ⟨rfl, hb1⟩

end Go.Proofs.YtolaofoffakddaaDoor
