import Derived.Test.YtgkfjpbgdhmhmaaGreatDoorVSU
import Derived.Test.YtgkfjpbgdhmhmaaGreatDoorVCSB
set_option maxHeartbeats 8000000
namespace Go.Proofs.YtgkfjpbgdhmhmaaGreatDoor
open Go.RowKit
def grS (n g l m na nb nc nd : Nat) : Bool := decide (200 < n \/ 100 < g \/ 20 < l \/ 100 < m \/ 100 < na + nb + nc \/ 1000 < nd)
set_option maxRecDepth 100000 in
theorem great13_any (F A I : Int) (oN oG oL oE : Option Addr) (n cN g cG l cL m cE : Nat) (oa ob oc od : Option Addr) (na ca nb cb nc cc nd cd : Nat) (ha : na <= 1000000000000000) (hb : nb <= 1000000000000000) (hc : nc <= 1000000000000000) (w : World) : Calls Tryz.prog 9 #[.agg #[.int .i64 F, .int .i64 A, .int .i64 I, .slice oN n cN, .slice oG g cG, .slice oL l cL, .slice oE m cE], .agg #[.slice oa na ca, .slice ob nb cb, .slice oc nc cc, .slice od nd cd]] w fun e w' => e = .returned (.bool (grS n g l m na nb nc nd)) /\ Below w.heap.size w w' := by
 have HB : Hid (Below w.heap.size w ((w.alloc (.cells #[.int .i64 F, .int .i64 A, .int .i64 I, .slice oN n cN, .slice oG g cG, .slice oL l cL, .slice oE m cE] 27)).alloc (.cells #[.slice oa na ca, .slice ob nb cb, .slice oc nc cc, .slice od nd cd] 31))) := bAlloc (bAlloc (Below.refl _ _) _) _
 have hw1 : IntKind.i64.wrap ((na : Int) + (nb : Int)) = (na : Int) + (nb : Int) := by simp [IntKind.wrap, IntKind.bits, IntKind.signed]; omega
 have hw2 : IntKind.i64.wrap ((na : Int) + (nb : Int) + (nc : Int)) = (na : Int) + (nb : Int) + (nc : Int) := by simp [IntKind.wrap, IntKind.bits, IntKind.signed]; omega
 by_cases h0 : 200 < n
 ·have h0' : (200 : Int) < (n : Int) := by omega
  have HP : Hid (grS n g l m na nb nc nd = true) := decide_eq_true (Or.inl h0)
  go_enter Tryz.func9, Tryz.ntmps9
  go_wp2
  go_ret
  exact ⟨by rw [HP.out]; rfl, HB.out⟩
 have h0' : ¬ (200 : Int) < (n : Int) := by omega
 by_cases h1 : 100 < g
 ·have h1' : (100 : Int) < (g : Int) := by omega
  have HP : Hid (grS n g l m na nb nc nd = true) := decide_eq_true (Or.inr (Or.inl h1))
  go_enter Tryz.func9, Tryz.ntmps9
  go_wp2
  go_ret
  exact ⟨by rw [HP.out]; rfl, HB.out⟩
 have h1' : ¬ (100 : Int) < (g : Int) := by omega
 by_cases h2 : 20 < l
 ·have h2' : (20 : Int) < (l : Int) := by omega
  have HP : Hid (grS n g l m na nb nc nd = true) := decide_eq_true (Or.inr (Or.inr (Or.inl h2)))
  go_enter Tryz.func9, Tryz.ntmps9
  go_wp2
  go_ret
  exact ⟨by rw [HP.out]; rfl, HB.out⟩
 have h2' : ¬ (20 : Int) < (l : Int) := by omega
 by_cases h3 : 100 < m
 ·have h3' : (100 : Int) < (m : Int) := by omega
  have HP : Hid (grS n g l m na nb nc nd = true) := decide_eq_true (Or.inr (Or.inr (Or.inr (Or.inl h3))))
  go_enter Tryz.func9, Tryz.ntmps9
  go_wp2
  go_ret
  exact ⟨by rw [HP.out]; rfl, HB.out⟩
 have h3' : ¬ (100 : Int) < (m : Int) := by omega
 by_cases h4 : 100 < na + nb + nc
 ·have h4' : (100 : Int) < ((na : Int) + (nb : Int) + (nc : Int)) := by omega
  have HP : Hid (grS n g l m na nb nc nd = true) := decide_eq_true (Or.inr (Or.inr (Or.inr (Or.inr (Or.inl h4)))))
  go_enter Tryz.func9, Tryz.ntmps9
  go_wp2
  go_ret
  exact ⟨by rw [HP.out]; rfl, HB.out⟩
 have h4' : ¬ (100 : Int) < ((na : Int) + (nb : Int) + (nc : Int)) := by omega
 by_cases h5 : 1000 < nd
 ·have h5' : (1000 : Int) < (nd : Int) := by omega
  have HP : Hid (grS n g l m na nb nc nd = true) := decide_eq_true (Or.inr (Or.inr (Or.inr (Or.inr (Or.inr (h5))))))
  go_enter Tryz.func9, Tryz.ntmps9
  go_wp2
  go_ret
  exact ⟨by rw [HP.out]; rfl, HB.out⟩
 have h5' : ¬ (1000 : Int) < (nd : Int) := by omega
 have HP : Hid (grS n g l m na nb nc nd = false) := decide_eq_false (fun h => by omega)
 go_enter Tryz.func9, Tryz.ntmps9
 go_wp2
 go_ret
 exact ⟨by rw [HP.out]; rfl, HB.out⟩
theorem a2Size : (Tryz.prog.info? 80).map (·.size) = some 4 := by kernel_rfl
theorem oneA2 (p0 p1 p2 p3 : Int) : (#[.int .i64 p0, .int .i64 p1, .int .i64 p2, .int .i64 p3] : Array Value).all (·.oneCell') = true := by
 refine all_oneCell_toArray ?_
 simp only [List.forall_mem_cons]
 exact ⟨rfl, rfl, rfl, rfl, fun v hv => by cases hv⟩
def pX (a b : Int) (j : Nat) : Int := if j = 0 then a else b
set_option maxRecDepth 100000 in
theorem rFit_any (F A I : Int) (oN oG oL oE oa ob oc od : Option Addr) (n cN g cG l cL m cE na ca nb cb nc cc nd cd : Nat) (k : Int) (f : Nat -> Value × Value) (ni nt : Nat -> Nat) (In Tb : Nat -> Nat -> Int) (T : Nat -> Int × Int × Int × Nat) (G : Nat -> Int) (E : Nat -> Int × Int) (Fa Fb Fc : Nat -> Value) (La Lb Lc : Nat -> Nat) (Ea Eb Ec : Nat -> Nat -> Nat) (P : Nat -> Int × Int × Int × Int) (hn : n <= 1000000) (hg : g <= 1000000) (hl : l <= 1000000) (hm : m <= 1000000) (ha : na <= 1000000) (hb : nb <= 1000000) (hc : nc <= 1000000) (hd : nd <= 1000000) (w : World) (hci : CirQ w (.slice oN n cN) (.slice oG g cG) (.slice oL l cL) (.slice oE m cE) n T g G l f ni nt In Tb m E) (hsh : ShQ w (.slice oa na ca) (.slice ob nb cb) (.slice oc nc cc) (.slice od nd cd) na Fa La Ea nb Fb Lb Eb nc Fc Lc Ec nd P) :
  Calls Tryz.prog 13 #[.agg #[.int .i64 F, .int .i64 A, .int .i64 I, .slice oN n cN, .slice oG g cG, .slice oL l cL, .slice oE m cE], .int .i64 k, .agg #[.slice oa na ca, .slice ob nb cb, .slice oc nc cc, .slice od nd cd]] w fun e w' => e = .returned (.int .i64 (filE (cirE (chkB n T F A I) (rgtB n T F A I g G l ni nt In Tb m E)) k (shtB F A I m na nb nc nd La Lb Lc P k))) /\ Below w.heap.size w w' := by
 obtain ⟨B1, eB1⟩ := lv (w.heap.size)
 obtain ⟨B2, eB2⟩ := lv (w.heap.size + 1)
 obtain ⟨w1, hw1⟩ := lv (w.alloc (.cells #[.int .i64 F, .int .i64 A, .int .i64 I, .slice oN n cN, .slice oG g cG, .slice oL l cL, .slice oE m cE] 27))
 have hz1 : w1.heap.size = w.heap.size + 1 := by rw [hw1]; simp
 obtain ⟨w2, hw2⟩ := lv (w1.alloc (.cells #[.slice oa na ca, .slice ob nb cb, .slice oc nc cc, .slice od nd cd] 31))
 have hz2 : w2.heap.size = w.heap.size + 1 + 1 := by rw [hw2]; simp [hz1]
 have hb1 : Below w.heap.size w w1 := by rw [hw1]; exact bAlloc (Below.refl _ _) _
 have hb2 : Below w1.heap.size w1 w2 := by rw [hw2]; exact bAlloc (Below.refl _ _) _
 have f1 : w1.heap[B1]? = some (.cells #[.int .i64 F, .int .i64 A, .int .i64 I, .slice oN n cN, .slice oG g cG, .slice oL l cL, .slice oE m cE] 27) := by rw [hw1, eB1]; show (w.heap.push _)[w.heap.size]? = _; simp
 have f12 := (hb2.block B1 (by omega)).trans f1
 have f2 : w2.heap[B2]? = some (.cells #[.slice oa na ca, .slice ob nb cb, .slice oc nc cc, .slice od nd cd] 31) := by rw [hw2, eB2, <- hz1]; show (w1.heap.push _)[w1.heap.size]? = _; simp
 have HB2 : Hid (Below w.heap.size w w2) := bStep hb1 hb2
 have HF1 : Hid (∀ w', Below w2.heap.size w2 w' -> K7 w' B1 (.int .i64 F) (.int .i64 A) (.int .i64 I) (.slice oN n cN) (.slice oG g cG) (.slice oL l cL) (.slice oE m cE)) := fun w' h => by
  have h1 := (h.block B1 (by omega)).trans f12
  exact ⟨by simp [World.cell?, h1], by simp [World.cell?, h1], by simp [World.cell?, h1], by simp [World.cell?, h1], by simp [World.cell?, h1], by simp [World.cell?, h1], by simp [World.cell?, h1]⟩
 have HF2 : Hid (∀ w', Below w2.heap.size w2 w' -> w'.cell? ⟨B2, 0, none⟩ = some (.slice oa na ca) /\ w'.cell? ⟨B2, 1, none⟩ = some (.slice ob nb cb) /\ w'.cell? ⟨B2, 2, none⟩ = some (.slice oc nc cc) /\ w'.cell? ⟨B2, 3, none⟩ = some (.slice od nd cd)) := fun w' h => by
  have h1 := (h.block B2 (by omega)).trans f2
  exact ⟨by simp [World.cell?, h1], by simp [World.cell?, h1], by simp [World.cell?, h1], by simp [World.cell?, h1]⟩
 have hbk : ∀ w', Below w2.heap.size w2 w' -> Below w.heap.size w w' := fun w' h => bStep HB2.out h
 have HCK : Hid (Calls _ _ _ _ _) := rCheck_any F A I oN oG oL oE n cN g cG l cL m cE f ni nt In Tb T G E hn hg hl hm w2 (hci.below HB2.out)
 have HUS : Hid (∀ w', Calls Tryz.prog 33 #[.int .i64 k] w' fun e w'' => e = .returned (.int .i64 (usN k)) /\ Below w'.heap.size w' w'') := fun w' => rusable_any k w'
 obtain ⟨u, eu⟩ := lv (usN k)
 rw [<- eu] at HUS
 have HSA : Hid (∀ w', Below w2.heap.size w2 w' -> Calls _ _ _ w' _) := fun w' h => short_any na ca oa Fa La Ea F u ha w' (hsh.1.below (hbk w' h))
 have HSB : Hid (∀ w', Below w2.heap.size w2 w' -> Calls _ _ _ w' _) := fun w' h => short_any nb cb ob Fb Lb Eb A u hb w' (hsh.2.1.below (hbk w' h))
 have HSC : Hid (∀ w', Below w2.heap.size w2 w' -> Calls _ _ _ w' _) := fun w' h => short_any nc cc oc Fc Lc Ec I u hc w' (hsh.2.2.1.below (hbk w' h))
 have HPW : Hid (∀ w', Below w2.heap.size w2 w' -> Cps w' (.slice od nd cd) nd P) := fun w' h => hsh.2.2.2.below (hbk w' h)
 obtain ⟨ck, eck⟩ := lv (cirE (chkB n T F A I) (rgtB n T F A I g G l ni nt In Tb m E))
 rw [<- eck] at HCK ⊢
 obtain ⟨x1, ex1⟩ := lv (fewB na La F u)
 obtain ⟨x2, ex2⟩ := lv (fewB nb Lb A u)
 obtain ⟨x3, ex3⟩ := lv (fewB nc Lc I u)
 rw [<- ex1] at HSA
 rw [<- ex2] at HSB
 rw [<- ex3] at HSC
 obtain ⟨fb, efb⟩ : ∃ x, x = (shtB F A I m na nb nc nd La Lb Lc P k) := ⟨_, rfl⟩
 rw [<- efb]
 obtain ⟨ek, eek⟩ := lv (filE ck k fb)
 rw [<- eek]
 have HEK : Hid (ek = filE ck k fb) := eek
 have HFB : Hid (fb = (x1 && x2 && x3 && copB nd P m k)) := by show fb = _; rw [efb, ex1, ex2, ex3, eu]; rfl
 have HU : Hid (u = usN k) := eu
 clear eu eck ex1 ex2 ex3 efb eek hci hsh hn hg hl hm ha hb hc hbk f1 f12 f2 hb1 hb2
 obtain ⟨q0, q1, q2, q3, q4, q5, q6⟩ := HF1.out w2 (Below.refl _ _)
 go_enter Tryz.func13, Tryz.ntmps13
 go_upto_region 1 with fail
 rw [<- hw1]
 rw [<- hw2]
 (try rw [<- eB2]); (try rw [<- eB1])
 clear hw1 hw2 hz1 hz2 eB1 eB2
 go_wp2_with fail
 refine Calls.mono HCK.out ?_
 rintro e w3 ⟨rfl, hb3⟩
 have HBw3 : Hid (Below w2.heap.size w2 w3) := hb3
 have HBF3 : Hid (Below w.heap.size w w3) := bStep HB2.out hb3
 clear HCK q0 q1 q2 q3 q4 q5 q6 hb3
 by_cases h0 : ck = 0
 rotate_left
 ·have HF : Hid (ek = ck) := HEK.out.trans (by simp [filE, h0])
  go_wp2
  go_ret
  exact ⟨by rw [HF.out]; rfl, HBF3.out⟩
 subst h0
 by_cases h3 : k < 3
 ·have HF : Hid (ek = 60) := HEK.out.trans (by simp [filE, h3])
  go_wp2
  go_ret
  exact ⟨by rw [HF.out]; rfl, HBF3.out⟩
 by_cases h5 : 5 < k
 ·have HF : Hid (ek = 60) := HEK.out.trans (by simp [filE, h5])
  go_wp2
  go_ret
  exact ⟨by rw [HF.out]; rfl, HBF3.out⟩
 have HEE : Hid (¬ fb = true -> ek = 130) := fun h => HEK.out.trans (by simp [filE, h3, h5, Bool.eq_false_iff.2 h])
 have HE0 : Hid (fb = true -> ek = 0) := fun h => HEK.out.trans (by simp [filE, h3, h5, h])
 clear HEK
 go_wp2_with fail
 refine Calls.mono (HUS.out w3) ?_
 rintro e w4 ⟨rfl, hb4⟩
 have HBw4 : Hid (Below w2.heap.size w2 w4) := bStep HBw3.out hb4
 have HBF4 : Hid (Below w.heap.size w w4) := bStep HB2.out HBw4.out
 clear hb4 HUS
 obtain ⟨q0, q1, q2, q3, q4, q5, q6⟩ := HF1.out w4 HBw4.out
 obtain ⟨r0, r1, r2, r3⟩ := HF2.out w4 HBw4.out
 go_wp2_with fail
 refine Calls.mono (HSA.out w4 HBw4.out) ?_
 rintro e w5 ⟨rfl, hw⟩
 obtain rfl := hw.symm
 clear hw q0 q1 q2 q3 q4 q5 q6 r0 r1 r2 r3
 cases x1 with
 | false =>
  have HF : Hid (ek = 130) := HEE.out (fun h => by rw [HFB.out] at h; cases h)
  go_wp2
  go_ret
  exact ⟨by rw [HF.out]; rfl, HBF4.out⟩
 | true =>
 obtain ⟨q0, q1, q2, q3, q4, q5, q6⟩ := HF1.out w4 HBw4.out
 obtain ⟨r0, r1, r2, r3⟩ := HF2.out w4 HBw4.out
 go_wp2_with fail
 refine Calls.mono (HSB.out w4 HBw4.out) ?_
 rintro e w5 ⟨rfl, hw⟩
 obtain rfl := hw.symm
 clear hw q0 q1 q2 q3 q4 q5 q6 r0 r1 r2 r3
 cases x2 with
 | false =>
  have HF : Hid (ek = 130) := HEE.out (fun h => by rw [HFB.out] at h; cases h)
  go_wp2
  go_ret
  exact ⟨by rw [HF.out]; rfl, HBF4.out⟩
 | true =>
 obtain ⟨q0, q1, q2, q3, q4, q5, q6⟩ := HF1.out w4 HBw4.out
 obtain ⟨r0, r1, r2, r3⟩ := HF2.out w4 HBw4.out
 go_wp2_with fail
 refine Calls.mono (HSC.out w4 HBw4.out) ?_
 rintro e w5 ⟨rfl, hw⟩
 obtain rfl := hw.symm
 clear hw q0 q1 q2 q3 q4 q5 q6 r0 r1 r2 r3
 cases x3 with
 | false =>
  have HF : Hid (ek = 130) := HEE.out (fun h => by rw [HFB.out] at h; cases h)
  go_wp2
  go_ret
  exact ⟨by rw [HF.out]; rfl, HBF4.out⟩
 | true =>
 obtain ⟨q0, q1, q2, q3, q4, q5, q6⟩ := HF1.out w4 HBw4.out
 obtain ⟨r0, r1, r2, r3⟩ := HF2.out w4 HBw4.out
 by_cases h256 : (256 : Int) < (nd : Int)
 ·have HF : Hid (ek = 130) := HEE.out (fun h => by rw [HFB.out] at h; have := (of_decide_eq_true (show copB nd P m k = true from h)).1; omega)
  go_wp2
  go_ret
  exact ⟨by rw [HF.out]; rfl, HBF4.out⟩
 have HFC : Hid (fb = copB nd P m k) := HFB.out
 have HFB2 : Hid (fb = copB nd P m k) := HFB.out
 clear HFB
 go_wp2
 clear q0 q1 q2 q3 q4 q5 q6 r0 r1 r2 r3
 go_loopw [9] (fun iv wr => ∃ i : Nat, iv = .int .i64 (i : Int) /\ i <= nd /\ Below w2.heap.size w2 wr /\ Hid (∀ t, t < i -> bothB m k (P t) = true)) (fun iv _ => nd - (intOf iv).toNat)
 case atStart => exact ⟨0, rfl, Nat.zero_le _, HBw4.out, fun t ht => by omega⟩
 case round =>
  obtain ⟨i, rfl, hi, hbr, HALL⟩ := hrel
  have HBX : Hid (Below w2.heap.size w2 wr) := hbr
  obtain ⟨r0, r1, r2, r3⟩ := HF2.out wr hbr
  by_cases hlt : i < nd
  ·have hii : (i : Int) < (nd : Int) := by omega
   have hi0 : (0 : Int) <= (i : Int) := by omega
   obtain ⟨p0, p1, p2, p3, hp⟩ : ∃ p0 p1 p2 p3, P i = (p0, p1, p2, p3) := ⟨_, _, _, _, rfl⟩
   obtain ⟨ab, ao, ea, lab, a0, a1, a2, a3⟩ := (HPW.out wr hbr).at hlt hp
   subst ea
   have HCP : Hid (∀ w', Below wr.heap.size wr w' -> w'.cell? ⟨ab, ao + i * 4, none⟩ = some (.int .i64 p0) /\ w'.cell? ⟨ab, ao + i * 4 + 1, none⟩ = some (.int .i64 p1) /\ w'.cell? ⟨ab, ao + i * 4 + 2, none⟩ = some (.int .i64 p2) /\ w'.cell? ⟨ab, ao + i * 4 + 3, none⟩ = some (.int .i64 p3)) := fun w' h => by
    rw [h.cell (p := ⟨ab, _, none⟩) lab, h.cell (p := ⟨ab, _, none⟩) lab, h.cell (p := ⟨ab, _, none⟩) lab, h.cell (p := ⟨ab, _, none⟩) lab]
    exact ⟨a0, a1, a2, a3⟩
   have HPB : Hid (bothB m k (P i) = (cellB m k p0 p1 && cellB m k p2 p3)) := by show bothB m k (P i) = _; rw [hp]; rfl
   clear a0 a1 a2 a3 hp lab hbr
   go_upto_region 12 with fail
   clear r0 r1 r2 r3
   refine wp_region_Z (fun w' => Below wr.heap.size wr w') 99 (by kernel_rfl) ?_
   obtain ⟨wD, hD⟩ := lv (wr.drew)
   rw [<- hD]
   have hp0 : Below wr.heap.size wr wD := by rw [hD]; exact (Below.refl _ _).drew
   clear hD
   refine zs 0 63 (.pointer (some ⟨B2, 3, none⟩)) hp0 ?_
   refine zT 1 64 (.slice (some ⟨ab, ao, none⟩) nd cd) rfl rfl (fun w hSw => by obtain ⟨r0, r1, r2, r3⟩ := HF2.out w (bStep HBX.out hSw); clear hSw; go_simp) hp0 ?_
   refine zs 2 65 (.int .i64 (i : Int)) hp0 ?_
   refine zs 3 66 (.pointer (some ⟨ab, ao + i * 4, none⟩)) hp0 ?_
   refine zs 4 67 (.pointer (some ⟨ab, ao + i * 4, none⟩)) hp0 ?_
   refine zT 5 68 (.agg #[.int .i64 p0, .int .i64 p1]) rfl rfl (fun w hSw => by obtain ⟨a0, a1, a2, a3⟩ := HCP.out w hSw; clear hSw; go_simp) hp0 ?_
   refine zs 6 69 (.pointer (some ⟨B2, 3, none⟩)) hp0 ?_
   refine zT 7 70 (.slice (some ⟨ab, ao, none⟩) nd cd) rfl rfl (fun w hSw => by obtain ⟨r0, r1, r2, r3⟩ := HF2.out w (bStep HBX.out hSw); clear hSw; go_simp) hp0 ?_
   refine zs 8 71 (.int .i64 (i : Int)) hp0 ?_
   refine zs 9 72 (.pointer (some ⟨ab, ao + i * 4, none⟩)) hp0 ?_
   refine zs 10 73 (.pointer (some ⟨ab, ao + i * 4 + 2, none⟩)) hp0 ?_
   refine zT 11 74 (.agg #[.int .i64 p2, .int .i64 p3]) rfl rfl (fun w hSw => by obtain ⟨a0, a1, a2, a3⟩ := HCP.out w hSw; clear hSw; go_simp) hp0 ?_
   refine zs 12 75 (.agg #[.int .i64 p0, .int .i64 p1, .int .i64 p2, .int .i64 p3]) hp0 ?_
   refine zo 13 rfl (fun K hK => ?_)
   obtain ⟨B10, eB10⟩ := lv (wD.heap.size)
   obtain ⟨wA, ewA⟩ := lv (wD.alloc (.cells #[.int .i64 0, .int .i64 0, .int .i64 0, .int .i64 0] 80))
   have hbA : Below wD.heap.size wD wA := by rw [ewA]; exact bAlloc (Below.refl _ _) _
   have fA : wA.heap[B10]? = some (.cells #[.int .i64 0, .int .i64 0, .int .i64 0, .int .i64 0] 80) := by rw [ewA, eB10]; show (wD.heap.push _)[wD.heap.size]? = _; simp
   have hpA : Below wr.heap.size wr wA := bStep hp0 hbA
   have hL10 : wr.heap.size <= B10 := by rw [eB10]; exact hp0.size
   go_simp
   rw [<- ewA, <- eB10]
   refine hK.out _ _ (fun _ => hpA) ?_
   clear hK K ewA eB10 hbA
   refine zo 14 rfl (fun K hK => ?_)
   rw [if_pos (show Region.wanted _ _ = true from rfl)]
   obtain ⟨w8, hw8, f8, hk8, hth⟩ := put_all #[.int .i64 p0, .int .i64 p1, .int .i64 p2, .int .i64 p3] fA rfl
   refine wp_store_mid 80 _ _ rfl B10 0 #[.int .i64 p0, .int .i64 p1, .int .i64 p2, .int .i64 p3] rfl rfl hth a2Size (oneA2 p0 p1 p2 p3) ?_
   rw [hw8]
   have hp8 : Below wr.heap.size wr w8 := hpA.trans (hk8.below hpA.size (fun x hx => by rw [hx]; exact hL10))
   simp only [Act.put]
   refine hK.out _ _ (fun _ => hp8) ?_
   clear hK K hw8 hk8 hth fA
   refine zd ?_ _
   have HBX8 : Hid (Below w2.heap.size w2 w8) := bStep HBX.out hp8
   have HAR8 : Hid (w8.heap[B10]? = some (.cells #[.int .i64 p0, .int .i64 p1, .int .i64 p2, .int .i64 p3] 80)) := f8
   clear hp0 hpA hp8 f8 hL10
   go_wp2
   go_loopw [11] (fun iv wx => ∃ j : Nat, iv = .int .i64 (j : Int) /\ j <= 2 /\ Below w2.heap.size w2 wx /\ Hid (wx.heap[B10]? = some (.cells #[.int .i64 p0, .int .i64 p1, .int .i64 p2, .int .i64 p3] 80)) /\ Hid (∀ t, t < j -> cellB m k (pX p0 p2 t) (pX p1 p3 t) = true)) (fun iv _ => 2 - (intOf iv).toNat)
   case atStart => exact ⟨0, rfl, by decide, HBX8.out, HAR8, fun t ht => by omega⟩
   case round =>
    obtain ⟨j, rfl, hj, hbx, HAR, HJA⟩ := hrel
    clear HBX8 HAR8 HBX
    have HBX : Hid (Below w2.heap.size w2 wr) := hbx
    by_cases hjl : j < 2
    ·have hji : (j : Int) < 2 := by omega
     have hj0 : (0 : Int) <= (j : Int) := by omega
     obtain ⟨x, ex⟩ := lv (pX p0 p2 j)
     obtain ⟨y, ey⟩ := lv (pX p1 p3 j)
     have HXY : Hid (x = pX p0 p2 j /\ y = pX p1 p3 j) := ⟨ex, ey⟩
     have HFC : Hid (∀ w', Below wr.heap.size wr w' -> w'.cell? ⟨B10, j * 2, none⟩ = some (.int .i64 x) /\ w'.cell? ⟨B10, j * 2 + 1, none⟩ = some (.int .i64 y)) := fun w' h => by
      have h1 := (h.block B10 (Array.getElem?_eq_some_iff.1 HAR.out).1).trans HAR.out
      have hj2 : j = 0 \/ j = 1 := by omega
      rcases hj2 with rfl | rfl
      ·exact ⟨by rw [ex]; simp [World.cell?, h1, pX], by rw [ey]; simp [World.cell?, h1, pX]⟩
      ·exact ⟨by rw [ex]; simp [World.cell?, h1, pX], by rw [ey]; simp [World.cell?, h1, pX]⟩
     have HBAD : Hid (¬ cellB m k x y = true -> ek = 130) := fun hc => HEE.out (fun h => by
      rw [HFB2.out] at h
      have h1 := (of_decide_eq_true h).2 i hlt
      rw [HPB.out, Bool.and_eq_true] at h1
      have hj2 : j = 0 \/ j = 1 := by omega
      rcases hj2 with rfl | rfl
      ·rw [ex, ey] at hc; exact hc h1.1
      ·rw [ex, ey] at hc; exact hc h1.2)
     clear ex ey hbx
     go_upto_region 16 with fail
     by_cases h1 : x < 0
     ·have HF : Hid (ek = 130) := HBAD.out (fun h => by have := of_decide_eq_true h; omega)
      have hcm : True := trivial
      clear hcm
      refine wp_region_Z (fun w' => Below wr.heap.size wr w') 99 (by kernel_rfl) ?_
      obtain ⟨wD, hD⟩ := lv (wr.drew)
      rw [<- hD]
      have hp0 : Below wr.heap.size wr wD := by rw [hD]; exact (Below.refl _ _).drew
      clear hD
      refine zs 0 80 (.int .i64 (j : Int)) hp0 ?_
      refine zs 1 81 (.pointer (some ⟨B10, j * 2, none⟩)) hp0 ?_
      refine zs 2 82 (.pointer (some ⟨B10, j * 2, none⟩)) hp0 ?_
      refine zT 3 83 (.int .i64 x) rfl rfl (fun w hSw => by obtain ⟨c0, c1⟩ := HFC.out w hSw; clear hSw; go_simp) hp0 ?_
      refine zs 4 84 (.bool true) hp0 ?_
      refine zs 5 85 (.bool true) hp0 ?_
      refine zU 6 86 hp0 ?_
      refine zU 7 87 hp0 ?_
      refine zU 8 88 hp0 ?_
      refine zU 9 89 hp0 ?_
      refine zU 10 90 hp0 ?_
      refine zU 11 91 hp0 ?_
      refine zU 12 92 hp0 ?_
      refine zU 13 93 hp0 ?_
      refine zs 14 94 (.bool true) hp0 ?_
      refine zs 15 95 (.bool true) hp0 ?_
      refine zU 16 96 hp0 ?_
      refine zU 17 97 hp0 ?_
      refine zU 18 98 hp0 ?_
      refine zU 19 99 hp0 ?_
      refine zU 20 100 hp0 ?_
      refine zs 21 101 (.bool true) hp0 ?_
      refine zs 22 102 (.bool true) hp0 ?_
      refine zU 23 103 hp0 ?_
      refine zU 24 104 hp0 ?_
      refine zU 25 105 hp0 ?_
      refine zU 26 106 hp0 ?_
      refine zU 27 107 hp0 ?_
      refine zU 28 108 hp0 ?_
      refine zs 29 109 (.bool true) hp0 ?_
      refine zd ?_ _
      have HBF : Hid (Below w.heap.size w wD) := bStep HB2.out (bStep HBX.out hp0)
      clear hp0
      go_wp2
      go_ret
      exact ⟨by rw [HF.out]; rfl, HBF.out⟩
     by_cases h2 : (m : Int) <= x
     ·have HF : Hid (ek = 130) := HBAD.out (fun h => by have := of_decide_eq_true h; omega)
      refine wp_region_Z (fun w' => Below wr.heap.size wr w') 99 (by kernel_rfl) ?_
      obtain ⟨wD, hD⟩ := lv (wr.drew)
      rw [<- hD]
      have hp0 : Below wr.heap.size wr wD := by rw [hD]; exact (Below.refl _ _).drew
      clear hD
      refine zs 0 80 (.int .i64 (j : Int)) hp0 ?_
      refine zs 1 81 (.pointer (some ⟨B10, j * 2, none⟩)) hp0 ?_
      refine zs 2 82 (.pointer (some ⟨B10, j * 2, none⟩)) hp0 ?_
      refine zT 3 83 (.int .i64 x) rfl rfl (fun w hSw => by obtain ⟨c0, c1⟩ := HFC.out w hSw; clear hSw; go_simp) hp0 ?_
      refine zs 4 84 (.bool false) hp0 ?_
      refine zs 5 85 (.bool false) hp0 ?_
      refine zs 6 86 (.int .i64 (j : Int)) hp0 ?_
      refine zs 7 87 (.pointer (some ⟨B10, j * 2, none⟩)) hp0 ?_
      refine zs 8 88 (.pointer (some ⟨B10, j * 2, none⟩)) hp0 ?_
      refine zT 9 89 (.int .i64 x) rfl rfl (fun w hSw => by obtain ⟨c0, c1⟩ := HFC.out w hSw; clear hSw; go_simp) hp0 ?_
      refine zs 10 90 (.pointer (some ⟨B1, 6, none⟩)) hp0 ?_
      refine zT 11 91 (.slice oE m cE) rfl rfl (fun w hSw => by obtain ⟨q0, q1, q2, q3, q4, q5, q6⟩ := HF1.out w (bStep HBX.out hSw); clear hSw; go_simp) hp0 ?_
      refine zs 12 92 (.int .i64 (m : Int)) hp0 ?_
      refine zs 13 93 (.bool true) hp0 ?_
      refine zs 14 94 (.bool true) hp0 ?_
      refine zs 15 95 (.bool true) hp0 ?_
      refine zU 16 96 hp0 ?_
      refine zU 17 97 hp0 ?_
      refine zU 18 98 hp0 ?_
      refine zU 19 99 hp0 ?_
      refine zU 20 100 hp0 ?_
      refine zs 21 101 (.bool true) hp0 ?_
      refine zs 22 102 (.bool true) hp0 ?_
      refine zU 23 103 hp0 ?_
      refine zU 24 104 hp0 ?_
      refine zU 25 105 hp0 ?_
      refine zU 26 106 hp0 ?_
      refine zU 27 107 hp0 ?_
      refine zU 28 108 hp0 ?_
      refine zs 29 109 (.bool true) hp0 ?_
      refine zd ?_ _
      have HBF : Hid (Below w.heap.size w wD) := bStep HB2.out (bStep HBX.out hp0)
      clear hp0
      go_wp2
      go_ret
      exact ⟨by rw [HF.out]; rfl, HBF.out⟩
     by_cases h3 : y < 0
     ·have HF : Hid (ek = 130) := HBAD.out (fun h => by have := of_decide_eq_true h; omega)
      refine wp_region_Z (fun w' => Below wr.heap.size wr w') 99 (by kernel_rfl) ?_
      obtain ⟨wD, hD⟩ := lv (wr.drew)
      rw [<- hD]
      have hp0 : Below wr.heap.size wr wD := by rw [hD]; exact (Below.refl _ _).drew
      clear hD
      refine zs 0 80 (.int .i64 (j : Int)) hp0 ?_
      refine zs 1 81 (.pointer (some ⟨B10, j * 2, none⟩)) hp0 ?_
      refine zs 2 82 (.pointer (some ⟨B10, j * 2, none⟩)) hp0 ?_
      refine zT 3 83 (.int .i64 x) rfl rfl (fun w hSw => by obtain ⟨c0, c1⟩ := HFC.out w hSw; clear hSw; go_simp) hp0 ?_
      refine zs 4 84 (.bool false) hp0 ?_
      refine zs 5 85 (.bool false) hp0 ?_
      refine zs 6 86 (.int .i64 (j : Int)) hp0 ?_
      refine zs 7 87 (.pointer (some ⟨B10, j * 2, none⟩)) hp0 ?_
      refine zs 8 88 (.pointer (some ⟨B10, j * 2, none⟩)) hp0 ?_
      refine zT 9 89 (.int .i64 x) rfl rfl (fun w hSw => by obtain ⟨c0, c1⟩ := HFC.out w hSw; clear hSw; go_simp) hp0 ?_
      refine zs 10 90 (.pointer (some ⟨B1, 6, none⟩)) hp0 ?_
      refine zT 11 91 (.slice oE m cE) rfl rfl (fun w hSw => by obtain ⟨q0, q1, q2, q3, q4, q5, q6⟩ := HF1.out w (bStep HBX.out hSw); clear hSw; go_simp) hp0 ?_
      refine zs 12 92 (.int .i64 (m : Int)) hp0 ?_
      refine zs 13 93 (.bool false) hp0 ?_
      refine zs 14 94 (.bool false) hp0 ?_
      refine zs 15 95 (.bool false) hp0 ?_
      refine zs 16 96 (.int .i64 (j : Int)) hp0 ?_
      refine zs 17 97 (.pointer (some ⟨B10, j * 2, none⟩)) hp0 ?_
      refine zs 18 98 (.pointer (some ⟨B10, j * 2 + 1, none⟩)) hp0 ?_
      refine zT 19 99 (.int .i64 y) rfl rfl (fun w hSw => by obtain ⟨c0, c1⟩ := HFC.out w hSw; clear hSw; go_simp) hp0 ?_
      refine zs 20 100 (.bool true) hp0 ?_
      refine zs 21 101 (.bool true) hp0 ?_
      refine zs 22 102 (.bool true) hp0 ?_
      refine zU 23 103 hp0 ?_
      refine zU 24 104 hp0 ?_
      refine zU 25 105 hp0 ?_
      refine zU 26 106 hp0 ?_
      refine zU 27 107 hp0 ?_
      refine zU 28 108 hp0 ?_
      refine zs 29 109 (.bool true) hp0 ?_
      refine zd ?_ _
      have HBF : Hid (Below w.heap.size w wD) := bStep HB2.out (bStep HBX.out hp0)
      clear hp0
      go_wp2
      go_ret
      exact ⟨by rw [HF.out]; rfl, HBF.out⟩
     by_cases h4 : u <= y
     ·have HF : Hid (ek = 130) := HBAD.out (fun h => by have := of_decide_eq_true h; have := HU.out; omega)
      refine wp_region_Z (fun w' => Below wr.heap.size wr w') 99 (by kernel_rfl) ?_
      obtain ⟨wD, hD⟩ := lv (wr.drew)
      rw [<- hD]
      have hp0 : Below wr.heap.size wr wD := by rw [hD]; exact (Below.refl _ _).drew
      clear hD
      refine zs 0 80 (.int .i64 (j : Int)) hp0 ?_
      refine zs 1 81 (.pointer (some ⟨B10, j * 2, none⟩)) hp0 ?_
      refine zs 2 82 (.pointer (some ⟨B10, j * 2, none⟩)) hp0 ?_
      refine zT 3 83 (.int .i64 x) rfl rfl (fun w hSw => by obtain ⟨c0, c1⟩ := HFC.out w hSw; clear hSw; go_simp) hp0 ?_
      refine zs 4 84 (.bool false) hp0 ?_
      refine zs 5 85 (.bool false) hp0 ?_
      refine zs 6 86 (.int .i64 (j : Int)) hp0 ?_
      refine zs 7 87 (.pointer (some ⟨B10, j * 2, none⟩)) hp0 ?_
      refine zs 8 88 (.pointer (some ⟨B10, j * 2, none⟩)) hp0 ?_
      refine zT 9 89 (.int .i64 x) rfl rfl (fun w hSw => by obtain ⟨c0, c1⟩ := HFC.out w hSw; clear hSw; go_simp) hp0 ?_
      refine zs 10 90 (.pointer (some ⟨B1, 6, none⟩)) hp0 ?_
      refine zT 11 91 (.slice oE m cE) rfl rfl (fun w hSw => by obtain ⟨q0, q1, q2, q3, q4, q5, q6⟩ := HF1.out w (bStep HBX.out hSw); clear hSw; go_simp) hp0 ?_
      refine zs 12 92 (.int .i64 (m : Int)) hp0 ?_
      refine zs 13 93 (.bool false) hp0 ?_
      refine zs 14 94 (.bool false) hp0 ?_
      refine zs 15 95 (.bool false) hp0 ?_
      refine zs 16 96 (.int .i64 (j : Int)) hp0 ?_
      refine zs 17 97 (.pointer (some ⟨B10, j * 2, none⟩)) hp0 ?_
      refine zs 18 98 (.pointer (some ⟨B10, j * 2 + 1, none⟩)) hp0 ?_
      refine zT 19 99 (.int .i64 y) rfl rfl (fun w hSw => by obtain ⟨c0, c1⟩ := HFC.out w hSw; clear hSw; go_simp) hp0 ?_
      refine zs 20 100 (.bool false) hp0 ?_
      refine zs 21 101 (.bool false) hp0 ?_
      refine zs 22 102 (.bool false) hp0 ?_
      refine zs 23 103 (.int .i64 (j : Int)) hp0 ?_
      refine zs 24 104 (.pointer (some ⟨B10, j * 2, none⟩)) hp0 ?_
      refine zs 25 105 (.pointer (some ⟨B10, j * 2 + 1, none⟩)) hp0 ?_
      refine zT 26 106 (.int .i64 y) rfl rfl (fun w hSw => by obtain ⟨c0, c1⟩ := HFC.out w hSw; clear hSw; go_simp) hp0 ?_
      refine zs 27 107 (.int .i64 u) hp0 ?_
      refine zs 28 108 (.bool true) hp0 ?_
      refine zs 29 109 (.bool true) hp0 ?_
      refine zd ?_ _
      have HBF : Hid (Below w.heap.size w wD) := bStep HB2.out (bStep HBX.out hp0)
      clear hp0
      go_wp2
      go_ret
      exact ⟨by rw [HF.out]; rfl, HBF.out⟩
     ·have HJN : Hid (∀ i, i < j + 1 -> cellB m k (pX p0 p2 i) (pX p1 p3 i) = true) := fun i hi => by
       rcases Nat.lt_or_ge i j with h | h
       ·exact HJA.out i h
       ·rw [show i = j by omega, <- HXY.out.1, <- HXY.out.2]
        exact decide_eq_true ⟨by omega, by omega, by omega, by have := HU.out; omega⟩
      refine wp_region_Z (fun w' => Below wr.heap.size wr w') 99 (by kernel_rfl) ?_
      obtain ⟨wD, hD⟩ := lv (wr.drew)
      rw [<- hD]
      have hp0 : Below wr.heap.size wr wD := by rw [hD]; exact (Below.refl _ _).drew
      clear hD
      refine zs 0 80 (.int .i64 (j : Int)) hp0 ?_
      refine zs 1 81 (.pointer (some ⟨B10, j * 2, none⟩)) hp0 ?_
      refine zs 2 82 (.pointer (some ⟨B10, j * 2, none⟩)) hp0 ?_
      refine zT 3 83 (.int .i64 x) rfl rfl (fun w hSw => by obtain ⟨c0, c1⟩ := HFC.out w hSw; clear hSw; go_simp) hp0 ?_
      refine zs 4 84 (.bool false) hp0 ?_
      refine zs 5 85 (.bool false) hp0 ?_
      refine zs 6 86 (.int .i64 (j : Int)) hp0 ?_
      refine zs 7 87 (.pointer (some ⟨B10, j * 2, none⟩)) hp0 ?_
      refine zs 8 88 (.pointer (some ⟨B10, j * 2, none⟩)) hp0 ?_
      refine zT 9 89 (.int .i64 x) rfl rfl (fun w hSw => by obtain ⟨c0, c1⟩ := HFC.out w hSw; clear hSw; go_simp) hp0 ?_
      refine zs 10 90 (.pointer (some ⟨B1, 6, none⟩)) hp0 ?_
      refine zT 11 91 (.slice oE m cE) rfl rfl (fun w hSw => by obtain ⟨q0, q1, q2, q3, q4, q5, q6⟩ := HF1.out w (bStep HBX.out hSw); clear hSw; go_simp) hp0 ?_
      refine zs 12 92 (.int .i64 (m : Int)) hp0 ?_
      refine zs 13 93 (.bool false) hp0 ?_
      refine zs 14 94 (.bool false) hp0 ?_
      refine zs 15 95 (.bool false) hp0 ?_
      refine zs 16 96 (.int .i64 (j : Int)) hp0 ?_
      refine zs 17 97 (.pointer (some ⟨B10, j * 2, none⟩)) hp0 ?_
      refine zs 18 98 (.pointer (some ⟨B10, j * 2 + 1, none⟩)) hp0 ?_
      refine zT 19 99 (.int .i64 y) rfl rfl (fun w hSw => by obtain ⟨c0, c1⟩ := HFC.out w hSw; clear hSw; go_simp) hp0 ?_
      refine zs 20 100 (.bool false) hp0 ?_
      refine zs 21 101 (.bool false) hp0 ?_
      refine zs 22 102 (.bool false) hp0 ?_
      refine zs 23 103 (.int .i64 (j : Int)) hp0 ?_
      refine zs 24 104 (.pointer (some ⟨B10, j * 2, none⟩)) hp0 ?_
      refine zs 25 105 (.pointer (some ⟨B10, j * 2 + 1, none⟩)) hp0 ?_
      refine zT 26 106 (.int .i64 y) rfl rfl (fun w hSw => by obtain ⟨c0, c1⟩ := HFC.out w hSw; clear hSw; go_simp) hp0 ?_
      refine zs 27 107 (.int .i64 u) hp0 ?_
      refine zs 28 108 (.bool false) hp0 ?_
      refine zs 29 109 (.bool false) hp0 ?_
      refine zd ?_ _
      have HBD : Hid (Below w2.heap.size w2 wD) := bStep HBX.out hp0
      have HA2 : Hid (wD.heap[B10]? = some (.cells #[.int .i64 p0, .int .i64 p1, .int .i64 p2, .int .i64 p3] 80)) := (hp0.block B10 (Array.getElem?_eq_some_iff.1 HAR.out).1).trans HAR.out
      clear hp0
      go_wp2
      go_roundw
      case measure => simp [intOf]; omega
      case rel => exact ⟨j + 1, by go_num, hjl, HBD.out, HA2, HJN⟩
    ·have hji : ¬ (j : Int) < 2 := by omega
     have HN : Hid (∀ t, t < i + 1 -> bothB m k (P t) = true) := fun t ht => by
      rcases Nat.lt_or_ge t i with h | h
      ·exact HALL.out t h
      ·rw [show t = i by omega, HPB.out, Bool.and_eq_true]
       exact ⟨HJA.out 0 (by omega), HJA.out 1 (by omega)⟩
     clear hbx
     go_wp2
     go_roundw
     case measure => simp [intOf]; omega
     case rel => exact ⟨i + 1, by go_num, hlt, HBX.out, HN⟩
  ·have hii : ¬ (i : Int) < (nd : Int) := by omega
   have HF : Hid (ek = 0) := HE0.out (by rw [HFC.out]; exact decide_eq_true ⟨by omega, fun t ht => HALL.out t (by omega)⟩)
   have HBF : Hid (Below w.heap.size w wr) := bStep HB2.out hbr
   clear hbr
   go_wp2
   go_ret
   exact ⟨by rw [HF.out]; rfl, HBF.out⟩
end Go.Proofs.YtgkfjpbgdhmhmaaGreatDoor
