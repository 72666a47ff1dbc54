import Derived.Test.YtgkfjpbgdhmhmaaGreatDoorVCS5
import Derived.Test.YtgkfjpbgdhmhmaaGreatDoorVRD
namespace Go.Proofs.YtgkfjpbgdhmhmaaGreatDoor
open Go.RowKit
theorem rgt_no (F A I : Int) (n : Nat) (T : Nat -> Int × Int × Int × Nat) (g : Nat) (G : Nat -> Int) (l : Nat) (ni nt : Nat -> Nat) (In Tb : Nat -> Nat -> Int) (m : Nat) (E : Nat -> Int × Int) (h : colB F A I = false \/ gatB n g G = false \/ lksB n T l ni nt In Tb = false \/ eqB F A I m E = false \/ ¬ dgL (dgs T n) G g l m ni nt In Tb l <= 8) : rgtB n T F A I g G l ni nt In Tb m E = false := by
 unfold rgtB
 rcases h with h | h | h | h | h
 ·rw [h, Bool.false_and]
 ·rw [h, Bool.false_and, Bool.and_false]
 ·rw [h, Bool.false_and, Bool.and_false, Bool.and_false]
 ·rw [h, Bool.false_and, Bool.and_false, Bool.and_false, Bool.and_false]
 ·rw [decide_eq_false h, Bool.and_false, Bool.and_false, Bool.and_false, Bool.and_false]
theorem ev_no {n : Nat} {p : Nat -> Bool} (k : Nat) (hk : k < n) (h : p k = false) : evB n p = false := decide_eq_false (fun a => by rw [a k hk] at h; cases h)
theorem gat_no {n g : Nat} {G : Nat -> Int} (k : Nat) (hk : k < g) (h : plB n (G k) = false) : gatB n g G = false := by
 unfold gatB; rw [ev_no k hk h, Bool.and_false]
theorem lks_no {n : Nat} {T : Nat -> Int × Int × Int × Nat} {l : Nat} {ni nt : Nat -> Nat} {In Tb : Nat -> Nat -> Int} (k : Nat) (hk : k < l) (h : lk1B n T (ni k) (nt k) (In k) (Tb k) = false) : lksB n T l ni nt In Tb = false := by
 unfold lksB; rw [ev_no (p := fun i => lk1B n T (ni i) (nt i) (In i) (Tb i)) k hk h, Bool.and_false]
theorem lk1_no1 {n : Nat} {T : Nat -> Int × Int × Int × Nat} {M1 M2 : Nat} {X Y : Nat -> Int} (j : Nat) (hj : j < M1) (h : flB n T (X j) = false) : lk1B n T M1 M2 X Y = false := by
 unfold lk1B; rw [ev_no (p := fun j => flB n T (X j)) j hj h, Bool.false_and, Bool.and_false]
theorem lk1_no2 {n : Nat} {T : Nat -> Int × Int × Int × Nat} {M1 M2 : Nat} {X Y : Nat -> Int} (j : Nat) (hj : j < M2) (h : flB n T (Y j) = false) : lk1B n T M1 M2 X Y = false := by
 unfold lk1B; rw [ev_no (p := fun j => flB n T (Y j)) j hj h, Bool.and_false, Bool.and_false]
theorem lk1_no0 {n : Nat} {T : Nat -> Int × Int × Int × Nat} {M1 M2 : Nat} {X Y : Nat -> Int} (h : ¬ (1 <= M1 /\ M1 <= 4 /\ M2 = M1)) : lk1B n T M1 M2 X Y = false := by
 unfold lk1B; rw [decide_eq_false h, Bool.false_and]
theorem eq_no {F A I : Int} {m : Nat} {E : Nat -> Int × Int} (k : Nat) (hk : k < m) (h : eqP F A I E k = false) : eqB F A I m E = false := by
 unfold eqB; rw [ev_no k hk h, Bool.and_false]
theorem eqP_col {F A I : Int} {E : Nat -> Int × Int} {i : Nat} (h : (E i).2 < 0 \/ colOf F A I (E i).1 <= (E i).2) : eqP F A I E i = false := by
 unfold eqP
 rcases h with h | h
 ·rw [decide_eq_false (p := 0 <= (E i).2) (by omega), Bool.false_and, Bool.and_false]
 ·rw [decide_eq_false (p := (E i).2 < colOf F A I (E i).1) (by omega), Bool.and_false, Bool.and_false]
theorem eqP_kind {F A I : Int} {E : Nat -> Int × Int} {i : Nat} (h : (E i).1 < 2 \/ 4 < (E i).1) : eqP F A I E i = false := by
 refine eqP_col ?_
 unfold colOf
 rw [if_neg (by omega), if_neg (by omega), if_neg (by omega)]
 omega
theorem eqP_dup {F A I : Int} {E : Nat -> Int × Int} {i : Nat} (j : Nat) (hj : j < i) (h : E j = E i) : eqP F A I E i = false := by
 unfold eqP; rw [decide_eq_true (p := ∃ j, j < i /\ E j = E i) ⟨j, hj, h⟩]; rfl
theorem eqP_yes {F A I : Int} {E : Nat -> Int × Int} {i : Nat} (h : ∀ j, j < i -> E j ≠ E i) (hc : 0 <= (E i).2 /\ (E i).2 < colOf F A I (E i).1) : eqP F A I E i = true := by
 unfold eqP; rw [decide_eq_false (p := ∃ j, j < i /\ E j = E i) (fun ⟨j, a, b⟩ => h j a b), decide_eq_true hc.1, decide_eq_true hc.2]; rfl
def eqI (a b x y : Int) : Bool := decide ((a, b) = (x, y))
theorem lks_true {n : Nat} {T : Nat -> Int × Int × Int × Nat} {l : Nat} {ni nt : Nat -> Nat} {In Tb : Nat -> Nat -> Int} (h : lksB n T l ni nt In Tb = true) : ∀ i, i < l -> nt i = ni i /\ (1 <= ni i /\ ni i <= 4) /\ ∀ j, j < ni i -> (0 <= In i j /\ In i j < (n : Int)) /\ 0 <= Tb i j /\ Tb i j < (n : Int) := by
 intro i hi
 unfold lksB at h
 rw [Bool.and_eq_true] at h
 have h1 : lk1B n T (ni i) (nt i) (In i) (Tb i) = true := evB_true h.2 i hi
 unfold lk1B at h1
 rw [Bool.and_eq_true, Bool.and_eq_true] at h1
 have h2 := of_decide_eq_true h1.1
 have fp : ∀ p, flB n T p = true -> 0 <= p /\ p < (n : Int) := fun p hp => by unfold flB at hp; rw [Bool.and_eq_true] at hp; exact of_decide_eq_true hp.1
 exact ⟨h2.2.2, ⟨h2.1, h2.2.1⟩, fun j hj => ⟨fp _ (evB_true h1.2.1 j hj), fp _ (evB_true h1.2.2 j (by omega))⟩⟩
theorem ite2 (a b x y : Int) (w : World) : (if a = x then if b = y then Result.ok (Next.value (.bool true)) w else Result.ok (Next.value (.bool false)) w else Result.ok (Next.value (.bool false)) w) = Result.ok (Next.value (.bool (eqI a b x y))) w := by
 unfold eqI
 by_cases h1 : a = x <;> by_cases h2 : b = y <;> simp [h1, h2]
set_option maxHeartbeats 32000000 in
set_option maxRecDepth 100000 in
theorem rCheck_any (F A I : Int) (oN oG oL oE : Option Addr) (n cN g cG l cL m cE : Nat) (f : Nat -> Value × Value) (ni nt : Nat -> Nat) (In Tb : Nat -> Nat -> Int) (T : Nat -> Int × Int × Int × Nat) (G : Nat -> Int) (E : Nat -> Int × Int) (hn : n <= 1000000) (hg : g <= 1000000) (hl : l <= 1000000) (hm : m <= 1000000) (w : World)
  (hc : CirQ w (.slice oN n cN) (.slice oG g cG) (.slice oL l cL) (.slice oE m cE) n T g G l f ni nt In Tb m E) :
  Calls Tryz.prog 32 #[.agg #[.int .i64 F, .int .i64 A, .int .i64 I, .slice oN n cN, .slice oG g cG, .slice oL l cL, .slice oE m cE]] w fun e w' => e = .returned (.int .i64 (cirE (chkB n T F A I) (rgtB n T F A I g G l ni nt In Tb m E))) /\ Below w.heap.size w w' := by
 obtain ⟨w1, ew1⟩ := lv (w.alloc (.cells #[.int .i64 F, .int .i64 A, .int .i64 I, .slice oN n cN, .slice oG g cG, .slice oL l cL, .slice oE m cE] 27))
 have hb1 : Below w.heap.size w w1 := by rw [ew1]; exact bAlloc (Below.refl _ _) _
 obtain ⟨b1, eb1⟩ := lv (w.heap.size)
 have f1 : w1.heap[b1]? = some (.cells #[.int .i64 F, .int .i64 A, .int .i64 I, .slice oN n cN, .slice oG g cG, .slice oL l cL, .slice oE m cE] 27) := by rw [ew1, eb1]; show (w.heap.push _)[w.heap.size]? = _; simp
 have HCK : Hid (Calls _ _ _ _ _) := rcheck_any n cN oN T F A I hn w1 (hc.below hb1).1
 have HB1 : Hid (Below w.heap.size w w1) := hb1
 have HF1 : Hid (w1.heap[b1]? = some (.cells #[.int .i64 F, .int .i64 A, .int .i64 I, .slice oN n cN, .slice oG g cG, .slice oL l cL, .slice oE m cE] 27)) := f1
 have HCR : Hid (∀ w', Below w.heap.size w w' -> CirQ w' (.slice oN n cN) (.slice oG g cG) (.slice oL l cL) (.slice oE m cE) n T g G l f ni nt In Tb m E) := fun w' h => hc.below h
 obtain ⟨cb, ecb⟩ := lv (chkB n T F A I)
 obtain ⟨rb, erb⟩ := lv (rgtB n T F A I g G l ni nt In Tb m E)
 rw [<- ecb] at HCK
 rw [<- ecb, <- erb]
 have HCB : Hid (cb = chkB n T F A I) := ecb
 have HRB : Hid (rb = rgtB n T F A I g G l ni nt In Tb m E) := erb
 obtain ⟨d0, d1, d2, d3, d4, d5, d6⟩ := cells7 f1
 clear hc f1 hb1 ecb erb
 go_enter Tryz.func32, Tryz.ntmps32
 go_upto_region 1 with fail
 rw [<- ew1, <- eb1]
 clear ew1 eb1
 go_wp2_with fail
 refine Calls.mono HCK.out ?_
 rintro e w2 ⟨rfl, hb2⟩
 have HB2 : Hid (Below w.heap.size w w2) := bStep HB1.out hb2
 have f2 := (hb2.block b1 (Array.getElem?_eq_some_iff.1 HF1.out).1).trans HF1.out
 have HF2 : Hid (w2.heap[b1]? = some (.cells #[.int .i64 F, .int .i64 A, .int .i64 I, .slice oN n cN, .slice oG g cG, .slice oL l cL, .slice oE m cE] 27)) := f2
 clear d0 d1 d2 d3 d4 d5 d6 HCK hb2 HF1 HB1
 obtain ⟨d0, d1, d2, d3, d4, d5, d6⟩ := cells7 f2
 clear f2
 cases cb
 ·rw [show err false 110 = 110 from rfl]
  go_wp2
  go_ret
  exact ⟨rfl, HB2.out⟩
 rw [show err true 110 = 0 from rfl]
 have hck := HCB.out.symm
 unfold chkB at hck
 rw [Bool.and_eq_true, Bool.and_eq_true] at hck
 have HOR : Hid (ordB n T = true) := hck.2.1
 clear hck
 obtain ⟨w3, ew3⟩ := lv (w2.alloc (.cells #[.int .i64 F, .int .i64 A, .int .i64 I] 114))
 have hb3 : Below w2.heap.size w2 w3 := by rw [ew3]; exact bAlloc (Below.refl _ _) _
 obtain ⟨b4, eb4⟩ := lv (w2.heap.size)
 have f3 : w3.heap[b4]? = some (.cells #[.int .i64 F, .int .i64 A, .int .i64 I] 114) := by rw [ew3, eb4]; show (w2.heap.push _)[w2.heap.size]? = _; simp
 have f1 : w3.heap[b1]? = some (.cells #[.int .i64 F, .int .i64 A, .int .i64 I, .slice oN n cN, .slice oG g cG, .slice oL l cL, .slice oE m cE] 27) := (hb3.block b1 (Array.getElem?_eq_some_iff.1 HF2.out).1).trans HF2.out
 have hbw3 : Below w.heap.size w w3 := bStep HB2.out hb3
 have HFB : Hid (∀ w', Below w3.heap.size w3 w' -> w'.heap[b1]? = some (.cells #[.int .i64 F, .int .i64 A, .int .i64 I, .slice oN n cN, .slice oG g cG, .slice oL l cL, .slice oE m cE] 27)) := fun w' h => (h.block b1 (Array.getElem?_eq_some_iff.1 f1).1).trans f1
 have HF4 : Hid (∀ w', Below w3.heap.size w3 w' -> w'.heap[b4]? = some (.cells #[.int .i64 F, .int .i64 A, .int .i64 I] 114)) := fun w' h => (h.block b4 (Array.getElem?_eq_some_iff.1 f3).1).trans f3
 have HB3W : Hid (∀ w', Below w3.heap.size w3 w' -> Below w.heap.size w w') := fun w' h => bStep hbw3 h
 have HCW : Hid (∀ w', Below w3.heap.size w3 w' -> CirQ w' (.slice oN n cN) (.slice oG g cG) (.slice oL l cL) (.slice oE m cE) n T g G l f ni nt In Tb m E) := fun w' h => HCR.out w' (bStep hbw3 h)
 have HRN : Hid (∀ w', Below w3.heap.size w3 w' -> Rs w' (.slice oN n cN) 7 n (fun i => nC (T i))) := fun w' h => (HCR.out w' (bStep hbw3 h)).1
 have HM3 : Hid (∀ k, k < 3 -> w3.cell? ⟨b4, k, none⟩ = some (.int .i64 (tri F A I k))) := fun k hk => by
  obtain ⟨m0, m1, m2⟩ := cells3 f3
  have h3 : k = 0 \/ k = 1 \/ k = 2 := by omega
  rcases h3 with rfl | rfl | rfl
  ·exact m0
  ·exact m1
  ·exact m2
 clear f3 hb3 hbw3 HCR HF2 HB2
 go_upto_region 5 with fail
 rw [<- ew3, <- eb4]
 clear ew3 eb4 d0 d1 d2 d3 d4 d5 d6
 obtain ⟨d0, d1, d2, d3, d4, d5, d6⟩ := cells7 f1
 clear f1
 have hb33 : Below w3.heap.size w3 w3 := Below.refl _ _
 go_wp2
 go_loop [5] (fun iv => ∃ k : Nat, iv = .int .i64 (k : Int) /\ k <= 3 /\ Hid (∀ i, i < k -> cntB (tri F A I i) = true)) (fun iv => 3 - (intOf iv).toNat)
 case atStart => exact ⟨0, rfl, Nat.zero_le _, fun i hi => by omega⟩
 case round =>
  obtain ⟨k, rfl, hk, HALL⟩ := hrel
  by_cases hlt : k < 3
  ·have hki : (k : Int) < 3 := by omega
   have hk0 : (0 : Int) <= (k : Int) := by omega
   have cx := HM3.out k hlt
   obtain ⟨x, ex⟩ := lv (tri F A I k)
   rw [<- ex] at cx
   have HEX : Hid (x = tri F A I k) := ex
   have HCN : Hid (cntB x = false -> colB F A I = false) := fun h => by unfold colB; rw [<- evB_tri, ev_no k hlt (by rw [<- HEX.out]; exact h), Bool.and_false]
   clear ex
   by_cases x0 : x < 0
   ·have hcf : cntB x = false := decide_eq_false (by omega)
    have HX : Hid (rb = false) := by rw [HRB.out]; exact rgt_no F A I n T g G l ni nt In Tb m E (Or.inl (HCN.out hcf))
    have HBF : Hid (Below w.heap.size w w3) := HB3W.out w3 (by assumption)
    go_wp2
    go_ret
    exact ⟨by rw [HX.out]; rfl, HBF.out⟩
   have x0' : 0 <= x := by omega
   by_cases x8 : 8 < x
   ·have hcf : cntB x = false := decide_eq_false (by omega)
    have HX : Hid (rb = false) := by rw [HRB.out]; exact rgt_no F A I n T g G l ni nt In Tb m E (Or.inl (HCN.out hcf))
    have HBF : Hid (Below w.heap.size w w3) := HB3W.out w3 (by assumption)
    go_wp2
    go_ret
    exact ⟨by rw [HX.out]; rfl, HBF.out⟩
   have x8' : x <= 8 := by omega
   have HA : Hid (∀ i, i < k + 1 -> cntB (tri F A I i) = true) := fun i hi => by
    rcases Nat.lt_or_ge i k with h | h
    ·exact HALL.out i h
    ·rw [show i = k by omega, <- HEX.out]; exact decide_eq_true ⟨x0', x8'⟩
   go_wp2
   go_round
   case measure => simp [intOf]; omega
   case rel => exact ⟨k + 1, by go_num, hlt, HA⟩
  ·have hki : ¬ (k : Int) < 3 := by omega
   have HCT : Hid (evB 3 (fun i => cntB (tri F A I i)) = true) := decide_eq_true (fun i hi => HALL.out i (by omega))
   clear HALL
   by_cases hA : A = 0
   ·subst hA
    have hcf : colB F 0 I = false := rfl
    have HX : Hid (rb = false) := by rw [HRB.out]; exact rgt_no F 0 I n T g G l ni nt In Tb m E (Or.inl hcf)
    have HBF : Hid (Below w.heap.size w w3) := HB3W.out w3 (by assumption)
    go_wp2
    go_ret
    exact ⟨by rw [HX.out]; rfl, HBF.out⟩
   have HCOL : Hid (colB F A I = true) := by show colB F A I = true; unfold colB; rw [decide_eq_true hA, Bool.true_and, <- evB_tri]; exact HCT.out
   by_cases g16 : 16 < g
   ·have g16i : (16 : Int) < (g : Int) := by omega
    have hcf : gatB n g G = false := by unfold gatB; rw [decide_eq_false (by omega), Bool.false_and]
    have HX : Hid (rb = false) := by rw [HRB.out]; exact rgt_no F A I n T g G l ni nt In Tb m E (Or.inr (Or.inl hcf))
    have HBF : Hid (Below w.heap.size w w3) := HB3W.out w3 (by assumption)
    go_wp2
    go_ret
    exact ⟨by rw [HX.out]; rfl, HBF.out⟩
   have g16i : ¬ (16 : Int) < (g : Int) := by omega
   have g16d : decide ((16 : Int) < (g : Int)) = false := decide_eq_false g16i
   by_cases l4 : 4 < l
   ·have l4i : (4 : Int) < (l : Int) := by omega
    have hcf : lksB n T l ni nt In Tb = false := by unfold lksB; rw [decide_eq_false (by omega), Bool.false_and]
    have HX : Hid (rb = false) := by rw [HRB.out]; exact rgt_no F A I n T g G l ni nt In Tb m E (Or.inr (Or.inr (Or.inl hcf)))
    have HBF : Hid (Below w.heap.size w w3) := HB3W.out w3 (by assumption)
    go_wp2
    go_ret
    exact ⟨by rw [HX.out]; rfl, HBF.out⟩
   have l4i : ¬ (4 : Int) < (l : Int) := by omega
   have l4d : decide ((4 : Int) < (l : Int)) = false := decide_eq_false l4i
   by_cases m8 : 8 < m
   ·have m8i : (8 : Int) < (m : Int) := by omega
    have hcf : eqB F A I m E = false := by unfold eqB; rw [decide_eq_false (by omega), Bool.false_and]
    have HX : Hid (rb = false) := by rw [HRB.out]; exact rgt_no F A I n T g G l ni nt In Tb m E (Or.inr (Or.inr (Or.inr (Or.inl hcf))))
    have HBF : Hid (Below w.heap.size w w3) := HB3W.out w3 (by assumption)
    go_wp2
    go_ret
    exact ⟨by rw [HX.out]; rfl, HBF.out⟩
   have m8i : ¬ (8 : Int) < (m : Int) := by omega
   have m8d : decide ((8 : Int) < (m : Int)) = false := decide_eq_false m8i
   clear HCT HM3
   go_wp2
   clear d0 d1 d2 d3 d4 d5 d6 hA hki
   go_loopw [6] (fun iv wr => ∃ k : Nat, iv = .int .i64 (k : Int) /\ k <= g /\ Below w3.heap.size w3 wr /\ Hid (∀ i, i < k -> plB n (G i) = true)) (fun iv _ => g - (intOf iv).toNat)
   case atStart => exact ⟨0, rfl, Nat.zero_le _, hb33, fun i hi => by omega⟩
   case round =>
    obtain ⟨k, rfl, hk, hbr, HALL⟩ := hrel
    obtain ⟨d0, d1, d2, d3, d4, d5, d6⟩ := cells7 (HFB.out wr hbr)
    by_cases hlt : k < g
    ·have hki : (k : Int) < (g : Int) := by omega
     have hk0 : (0 : Int) <= (k : Int) := by omega
     have hgz := (HCW.out w3 hb33).2.1
     rcases hgz with ⟨_, h0⟩ | ⟨gb, go, c', hv, _, _, lgb, hcell⟩
     ·omega
     cases hv
     obtain ⟨p, ep⟩ := lv (G k)
     have HP : Hid (p = G k) := ep
     have gc0 := hcell k hlt 0 (by decide)
     dsimp only at gc0
     rw [Nat.add_zero, Nat.mul_one, <- ep] at gc0
     have HGC : Hid (∀ w', Below w3.heap.size w3 w' -> w'.cell? ⟨gb, go + k, none⟩ = some (.int .i64 p)) := fun w' h => by rw [h.cell (p := ⟨gb, go + k, none⟩) lgb]; exact gc0
     have HBR : Hid (Below w3.heap.size w3 wr) := hbr
     clear gc0 hcell lgb ep hbr
     go_upto_region 15 with fail
     clear d0 d1 d2 d3 d4 d5 d6
     refine wp_region_Z (fun w' => Below w3.heap.size w3 w') 8 (by kernel_rfl) ?_
     obtain ⟨wD, hD⟩ := lv (wr.drew)
     rw [<- hD]
     have hp : Below w3.heap.size w3 wD := by rw [hD]; exact (HBR.out).drew
     clear hD
     refine zT 0 74 (.agg #[.int .i64 F, .int .i64 A, .int .i64 I, .slice oN n cN, .slice (some ⟨gb, go, none⟩) g cG, .slice oL l cL, .slice oE m cE]) rfl rfl (fun w hSw => by obtain ⟨d0, d1, d2, d3, d4, d5, d6⟩ := cells7 (HFB.out w hSw); have gc := HGC.out w hSw; go_simp) hp ?_
     refine zs 1 75 (.pointer (some ⟨b1, 4, none⟩)) hp ?_
     refine zT 2 76 (.slice (some ⟨gb, go, none⟩) g cG) rfl rfl (fun w hSw => by obtain ⟨d0, d1, d2, d3, d4, d5, d6⟩ := cells7 (HFB.out w hSw); have gc := HGC.out w hSw; go_simp) hp ?_
     refine zs 3 77 (.int .i64 (k : Int)) hp ?_
     refine zs 4 78 (.pointer (some ⟨gb, go + k, none⟩)) hp ?_
     refine zT 5 79 (.int .i64 p) rfl rfl (fun w hSw => by obtain ⟨d0, d1, d2, d3, d4, d5, d6⟩ := cells7 (HFB.out w hSw); have gc := HGC.out w hSw; go_simp) hp ?_
     refine zo 6 rfl (fun K hK => ?_)
     go_simp
     refine (rplace_any F A I oN (some ⟨gb, go, none⟩) oL oE n cN g cG l cL m cE p wD).mono ?_
     rintro e w4 ⟨rfl, hb4⟩
     have hp4 : Below w3.heap.size w3 w4 := bStep hp hb4
     obtain ⟨pb, epb⟩ := lv (plB n p)
     rw [<- epb]
     clear hb4 hp
     go_wp2_with fail
     refine hK.out _ _ (fun _ => hp4) ?_
     clear hK K
     cases pb
     ·refine zs 7 81 (.bool true) hp4 ?_
      refine zd ?_ _
      have HX : Hid (rb = false) := by rw [HRB.out]; exact rgt_no F A I n T g G l ni nt In Tb m E (Or.inr (Or.inl (gat_no k hlt (by rw [<- HP.out]; exact epb.symm))))
      have HBF : Hid (Below w.heap.size w w4) := HB3W.out w4 (by assumption)
      go_wp2
      go_ret
      exact ⟨by rw [HX.out]; rfl, HBF.out⟩
     ·refine zs 7 81 (.bool false) hp4 ?_
      refine zd ?_ _
      have HA : Hid (∀ i, i < k + 1 -> plB n (G i) = true) := fun i hi => by
       rcases Nat.lt_or_ge i k with h | h
       ·exact HALL.out i h
       ·rw [show i = k by omega, <- HP.out]; exact epb.symm
      have HB4 : Hid (Below w3.heap.size w3 w4) := hp4
      clear hp4 epb
      go_wp2
      go_roundw
      case measure => simp [intOf]; omega
      case rel => exact ⟨k + 1, by go_num, hlt, HB4.out, HA⟩
    ·have hki : ¬ (k : Int) < (g : Int) := by omega
     have HGAT : Hid (gatB n g G = true) := by
      show gatB n g G = true
      unfold gatB; rw [decide_eq_true (by omega), Bool.true_and]; exact decide_eq_true (fun i hi => HALL.out i (by omega))
     have HBR : Hid (Below w3.heap.size w3 wr) := hbr
     clear HALL hbr
     go_wp2
     clear d0 d1 d2 d3 d4 d5 d6 hki
     go_loopw [7] (fun iv wr => ∃ k : Nat, iv = .int .i64 (k : Int) /\ k <= l /\ Below w3.heap.size w3 wr /\ Hid (∀ i, i < k -> lk1B n T (ni i) (nt i) (In i) (Tb i) = true)) (fun iv _ => l - (intOf iv).toNat)
     case atStart => exact ⟨0, rfl, Nat.zero_le _, HBR.out, fun i hi => by omega⟩
     case round =>
      obtain ⟨k, rfl, hk, hbr, HALL⟩ := hrel
      clear HBR
      obtain ⟨d0, d1, d2, d3, d4, d5, d6⟩ := cells7 (HFB.out wr hbr)
      by_cases hlt : k < l
      ·have hki : (k : Int) < (l : Int) := by omega
       have hk0 : (0 : Int) <= (k : Int) := by omega
       have hlq := (HCW.out wr hbr).2.2.1
       obtain ⟨⟨oi, ci, ei⟩, ot, ct, et⟩ := hlq.shape k hlt
       have hzz := hlq.2 k hlt
       rcases hlq.1 with ⟨_, h0⟩ | ⟨lb, lo, c', hv, _, _, _, hcell⟩
       ·omega
       cases hv
       have a0 := hcell k hlt 0 (by decide); have a1 := hcell k hlt 1 (by decide)
       dsimp only at a0 a1
       rw [show pC (f k) 0 = .slice oi (ni k) ci from ei, Nat.add_zero] at a0
       rw [show pC (f k) 1 = .slice ot (nt k) ct from et] at a1
       rw [ei, et] at hzz
       obtain ⟨M1, eM1⟩ := lv (ni k)
       obtain ⟨M2, eM2⟩ := lv (nt k)
       rw [<- eM1] at a0
       rw [<- eM2] at a1
       rw [<- eM1, <- eM2] at hzz
       have HM1 : Hid (M1 = ni k) := eM1
       have HM2 : Hid (M2 = nt k) := eM2
       have HZZ : Hid (Zq wr (.slice oi M1 ci) M1 (In k) /\ Zq wr (.slice ot M2 ct) M2 (Tb k)) := hzz
       have HBR : Hid (Below w3.heap.size w3 wr) := hbr
       clear hcell hzz hlq ei et eM1 eM2
       obtain ⟨w5, ew5⟩ := lv (wr.alloc (.cells #[.slice oi M1 ci, .slice ot M2 ct] 68))
       have hb5 : Below wr.heap.size wr w5 := by rw [ew5]; exact bAlloc (Below.refl _ _) _
       obtain ⟨b8, eb8⟩ := lv (wr.heap.size)
       have f5 : w5.heap[b8]? = some (.cells #[.slice oi M1 ci, .slice ot M2 ct] 68) := by rw [ew5, eb8]; show (wr.heap.push _)[wr.heap.size]? = _; simp
       have HB5 : Hid (Below wr.heap.size wr w5) := hb5
       have HF5 : Hid (w5.heap[b8]? = some (.cells #[.slice oi M1 ci, .slice ot M2 ct] 68)) := f5
       have hq5 : Below w3.heap.size w3 w5 := bStep hbr hb5
       have HB35 : Hid (∀ w', Below w5.heap.size w5 w' -> Below w3.heap.size w3 w') := fun w' h => bStep hq5 h
       clear hb5 hbr
       go_upto_region 21 with fail
       rw [<- ew5, <- eb8]
       clear ew5 eb8 d0 d1 d2 d3 d4 d5 d6 a0 a1
       have s0 : w5.cell? ⟨b8, 0, none⟩ = some (.slice oi M1 ci) := cell_of_block f5 0
       have s1 : w5.cell? ⟨b8, 1, none⟩ = some (.slice ot M2 ct) := cell_of_block f5 1
       clear f5
       by_cases h1 : M1 < 1
       ·have h1i : (M1 : Int) < 1 := by omega
        have hlf : lk1B n T (ni k) (nt k) (In k) (Tb k) = false := lk1_no0 (by rw [<- HM1.out]; omega)
        have HX : Hid (rb = false) := by rw [HRB.out]; exact rgt_no F A I n T g G l ni nt In Tb m E (Or.inr (Or.inr (Or.inl (lks_no k hlt hlf))))
        have HBF : Hid (Below w.heap.size w w5) := HB3W.out w5 (by assumption)
        go_wp2
        go_ret
        exact ⟨by rw [HX.out]; rfl, HBF.out⟩
       have h1i : ¬ (M1 : Int) < 1 := by omega
       have h1d : decide ((M1 : Int) < 1) = false := decide_eq_false h1i
       by_cases h4 : 4 < M1
       ·have h4i : (4 : Int) < (M1 : Int) := by omega
        have hlf : lk1B n T (ni k) (nt k) (In k) (Tb k) = false := lk1_no0 (by rw [<- HM1.out]; omega)
        have HX : Hid (rb = false) := by rw [HRB.out]; exact rgt_no F A I n T g G l ni nt In Tb m E (Or.inr (Or.inr (Or.inl (lks_no k hlt hlf))))
        have HBF : Hid (Below w.heap.size w w5) := HB3W.out w5 (by assumption)
        go_wp2
        go_ret
        exact ⟨by rw [HX.out]; rfl, HBF.out⟩
       have h4i : ¬ (4 : Int) < (M1 : Int) := by omega
       have h4d : decide ((4 : Int) < (M1 : Int)) = false := decide_eq_false h4i
       by_cases h2 : M2 = M1
       rotate_left
       ·have h2i : ¬ (M2 : Int) = (M1 : Int) := by omega
        have hlf : lk1B n T (ni k) (nt k) (In k) (Tb k) = false := lk1_no0 (by rw [<- HM1.out, <- HM2.out]; omega)
        clear h2
        have HX : Hid (rb = false) := by rw [HRB.out]; exact rgt_no F A I n T g G l ni nt In Tb m E (Or.inr (Or.inr (Or.inl (lks_no k hlt hlf))))
        have HBF : Hid (Below w.heap.size w w5) := HB3W.out w5 (by assumption)
        go_wp2
        go_ret
        exact ⟨by rw [HX.out]; rfl, HBF.out⟩
       subst h2
       have hM1 : 1 <= M2 /\ M2 <= 4 := by omega
       have HM : Hid (1 <= M2 /\ M2 <= 4) := hM1
       clear hM1
       have hz1 : Zs wr (.slice oi M2 ci) M2 (In k) := by
        rcases HZZ.out.1 with h | ⟨h, _⟩
        ·exact h
        ·omega
       have hz2 : Zs wr (.slice ot M2 ct) M2 (Tb k) := by
        rcases HZZ.out.2 with h | ⟨h, _⟩
        ·exact h
        ·omega
       have hz1 := hz1.below HB5.out
       have hz2 := hz2.below HB5.out
       rcases hz1 with ⟨_, h0⟩ | ⟨ib, io, c1, hv1, _, _, lib, hc1⟩
       ·omega
       cases hv1
       rcases hz2 with ⟨_, h0⟩ | ⟨tb, tO, c2, hv2, _, _, ltb, hc2⟩
       ·omega
       cases hv2
       have HC1 : Hid (∀ w', Below w5.heap.size w5 w' -> ∀ j, j < M2 -> w'.cell? ⟨ib, io + j, none⟩ = some (.int .i64 (In k j))) := fun w' hb j hj => by rw [hb.cell (p := ⟨ib, io + j, none⟩) lib]; have h := hc1 j hj 0 (by decide); dsimp only at h; rw [Nat.add_zero, Nat.mul_one] at h; exact h
       have HC2 : Hid (∀ w', Below w5.heap.size w5 w' -> ∀ j, j < M2 -> w'.cell? ⟨tb, tO + j, none⟩ = some (.int .i64 (Tb k j))) := fun w' hb j hj => by rw [hb.cell (p := ⟨tb, tO + j, none⟩) ltb]; have h := hc2 j hj 0 (by decide); dsimp only at h; rw [Nat.add_zero, Nat.mul_one] at h; exact h
       clear hc1 hc2 lib ltb HZZ
       go_wp2
       clear s0 s1
       go_loopw [9] (fun iv wq => ∃ j : Nat, iv = .int .i64 (j : Int) /\ j <= M2 /\ Below w5.heap.size w5 wq /\ Hid (∀ i, i < j -> flB n T (In k i) = true /\ flB n T (Tb k i) = true)) (fun iv _ => M2 - (intOf iv).toNat)
       case atStart => exact ⟨0, rfl, Nat.zero_le _, Below.refl _ _, fun i hi => by omega⟩
       case round =>
        obtain ⟨j, rfl, hj, hbq, HJ⟩ := hrel
        have f8 := (hbq.block b8 (Array.getElem?_eq_some_iff.1 HF5.out).1).trans HF5.out
        have s0 : wr.cell? ⟨b8, 0, none⟩ = some (.slice (some ⟨ib, io, none⟩) M2 ci) := cell_of_block f8 0
        by_cases hjl : j < M2
        ·have hji : (j : Int) < (M2 : Int) := by omega
         have hj0 : (0 : Int) <= (j : Int) := by omega
         have hjl2 : j < ni k := by rw [<- HM1.out]; exact hjl
         obtain ⟨p, ep⟩ := lv (In k j)
         obtain ⟨q, eq⟩ := lv (Tb k j)
         have HPQ : Hid (p = In k j /\ q = Tb k j) := ⟨ep, eq⟩
         have HLC : Hid (∀ w', Below w5.heap.size w5 w' -> w'.cell? ⟨b8, 0, none⟩ = some (.slice (some ⟨ib, io, none⟩) M2 ci) /\ w'.cell? ⟨b8, 1, none⟩ = some (.slice (some ⟨tb, tO, none⟩) M2 ct) /\ w'.cell? ⟨ib, io + j, none⟩ = some (.int .i64 p) /\ w'.cell? ⟨tb, tO + j, none⟩ = some (.int .i64 q)) := fun w' hb => by
          have f9 := (hb.block b8 (Array.getElem?_eq_some_iff.1 HF5.out).1).trans HF5.out
          rw [ep, eq]
          exact ⟨cell_of_block f9 0, cell_of_block f9 1, HC1.out w' hb j hjl, HC2.out w' hb j hjl⟩
         have HBQ : Hid (Below w5.heap.size w5 wr) := hbq
         clear ep eq hbq f8
         go_upto_region 26 with fail
         clear s0
         refine wp_region_Z (fun w' => Below w5.heap.size w5 w') 18 (by kernel_rfl) ?_
         obtain ⟨wD, hD⟩ := lv (wr.drew)
         rw [<- hD]
         have hp : Below w5.heap.size w5 wD := by rw [hD]; exact (HBQ.out).drew
         clear hD
         refine zT 0 120 (.agg #[.int .i64 F, .int .i64 A, .int .i64 I, .slice oN n cN, .slice oG g cG, .slice (some ⟨lb, lo, none⟩) l cL, .slice oE m cE]) rfl rfl (fun w hSw => by obtain ⟨d0, d1, d2, d3, d4, d5, d6⟩ := cells7 (HFB.out w (HB35.out w hSw)); obtain ⟨s0, s1, s2, s3⟩ := HLC.out w hSw; go_simp) hp ?_
         refine zs 1 121 (.pointer (some ⟨b8, 0, none⟩)) hp ?_
         refine zT 2 122 (.slice (some ⟨ib, io, none⟩) M2 ci) rfl rfl (fun w hSw => by obtain ⟨d0, d1, d2, d3, d4, d5, d6⟩ := cells7 (HFB.out w (HB35.out w hSw)); obtain ⟨s0, s1, s2, s3⟩ := HLC.out w hSw; go_simp) hp ?_
         refine zs 3 123 (.int .i64 (j : Int)) hp ?_
         refine zs 4 124 (.pointer (some ⟨ib, io + j, none⟩)) hp ?_
         refine zT 5 125 (.int .i64 p) rfl rfl (fun w hSw => by obtain ⟨d0, d1, d2, d3, d4, d5, d6⟩ := cells7 (HFB.out w (HB35.out w hSw)); obtain ⟨s0, s1, s2, s3⟩ := HLC.out w hSw; go_simp) hp ?_
         refine zo 6 rfl (fun K hK => ?_)
         go_simp
         refine (rflat_any F A I oN oG (some ⟨lb, lo, none⟩) oE n cN g cG l cL m cE T p hn HOR.out wD (HRN.out wD (HB35.out wD hp))).mono ?_
         rintro e w6 ⟨rfl, hb6⟩
         have hp6 : Below w5.heap.size w5 w6 := bStep hp hb6
         obtain ⟨pb, epb⟩ := lv (flB n T p)
         rw [<- epb]
         have HEPB : Hid (pb = flB n T p) := epb
         clear epb
         clear hb6 hp
         go_wp2_with fail
         refine hK.out _ _ (fun _ => hp6) ?_
         clear hK K
         cases pb
         ·refine zs 7 127 (.bool true) hp6 ?_
          refine zs 8 128 (.bool true) hp6 ?_
          refine zU 9 129 hp6 ?_
          refine zU 10 130 hp6 ?_
          refine zU 11 131 hp6 ?_
          refine zU 12 132 hp6 ?_
          refine zU 13 133 hp6 ?_
          refine zU 14 134 hp6 ?_
          refine zU 15 135 hp6 ?_
          refine zU 16 136 hp6 ?_
          refine zs 17 137 (.bool true) hp6 ?_
          refine zd ?_ _
          have hq6 : Below w3.heap.size w3 w6 := HB35.out w6 hp6
          have HX : Hid (rb = false) := by rw [HRB.out]; exact rgt_no F A I n T g G l ni nt In Tb m E (Or.inr (Or.inr (Or.inl (lks_no k hlt (lk1_no1 j hjl2 (by rw [<- HPQ.out.1]; exact HEPB.out.symm))))))
          have HBF : Hid (Below w.heap.size w w6) := HB3W.out w6 (by assumption)
          go_wp2
          go_ret
          exact ⟨by rw [HX.out]; rfl, HBF.out⟩
         refine zs 7 127 (.bool false) hp6 ?_
         refine zs 8 128 (.bool false) hp6 ?_
         refine zT 9 129 (.agg #[.int .i64 F, .int .i64 A, .int .i64 I, .slice oN n cN, .slice oG g cG, .slice (some ⟨lb, lo, none⟩) l cL, .slice oE m cE]) rfl rfl (fun w hSw => by obtain ⟨d0, d1, d2, d3, d4, d5, d6⟩ := cells7 (HFB.out w (HB35.out w hSw)); obtain ⟨s0, s1, s2, s3⟩ := HLC.out w hSw; go_simp) hp6 ?_
         refine zs 10 130 (.pointer (some ⟨b8, 1, none⟩)) hp6 ?_
         refine zT 11 131 (.slice (some ⟨tb, tO, none⟩) M2 ct) rfl rfl (fun w hSw => by obtain ⟨d0, d1, d2, d3, d4, d5, d6⟩ := cells7 (HFB.out w (HB35.out w hSw)); obtain ⟨s0, s1, s2, s3⟩ := HLC.out w hSw; go_simp) hp6 ?_
         refine zs 12 132 (.int .i64 (j : Int)) hp6 ?_
         refine zs 13 133 (.pointer (some ⟨tb, tO + j, none⟩)) hp6 ?_
         refine zT 14 134 (.int .i64 q) rfl rfl (fun w hSw => by obtain ⟨d0, d1, d2, d3, d4, d5, d6⟩ := cells7 (HFB.out w (HB35.out w hSw)); obtain ⟨s0, s1, s2, s3⟩ := HLC.out w hSw; go_simp) hp6 ?_
         refine zo 15 rfl (fun K hK => ?_)
         rw [if_pos (show Region.wanted _ _ = true from rfl)]
         go_simp
         refine (rflat_any F A I oN oG (some ⟨lb, lo, none⟩) oE n cN g cG l cL m cE T q hn HOR.out w6 (HRN.out w6 (HB35.out w6 hp6))).mono ?_
         rintro e w7 ⟨rfl, hb7⟩
         have hp7 : Below w5.heap.size w5 w7 := bStep hp6 hb7
         obtain ⟨qb, eqb⟩ := lv (flB n T q)
         rw [<- eqb]
         have HEQB : Hid (qb = flB n T q) := eqb
         clear eqb
         clear hb7 hp6
         go_wp2_with fail
         refine hK.out _ _ (fun _ => hp7) ?_
         clear hK K
         cases qb
         ·refine zs 16 136 (.bool true) hp7 ?_
          refine zs 17 137 (.bool true) hp7 ?_
          refine zd ?_ _
          have hq7 : Below w3.heap.size w3 w7 := HB35.out w7 hp7
          have HX : Hid (rb = false) := by rw [HRB.out]; exact rgt_no F A I n T g G l ni nt In Tb m E (Or.inr (Or.inr (Or.inl (lks_no k hlt (lk1_no2 j (by rw [<- HM2.out]; exact hjl) (by rw [<- HPQ.out.2]; exact HEQB.out.symm))))))
          have HBF : Hid (Below w.heap.size w w7) := HB3W.out w7 (by assumption)
          go_wp2
          go_ret
          exact ⟨by rw [HX.out]; rfl, HBF.out⟩
         refine zs 16 136 (.bool false) hp7 ?_
         refine zs 17 137 (.bool false) hp7 ?_
         refine zd ?_ _
         have HA : Hid (∀ i, i < j + 1 -> flB n T (In k i) = true /\ flB n T (Tb k i) = true) := fun i hi => by
          rcases Nat.lt_or_ge i j with h | h
          ·exact HJ.out i h
          ·rw [show i = j by omega, <- HPQ.out.1, <- HPQ.out.2]; exact ⟨HEPB.out.symm, HEQB.out.symm⟩
         have HB7 : Hid (Below w5.heap.size w5 w7) := hp7
         clear hp7
         go_wp2
         go_roundw
         case measure => simp [intOf]; omega
         case rel => exact ⟨j + 1, by go_num, hjl, HB7.out, HA⟩
        ·have hji : ¬ (j : Int) < (M2 : Int) := by omega
         have HA : Hid (∀ i, i < k + 1 -> lk1B n T (ni i) (nt i) (In i) (Tb i) = true) := fun i hi => by
          rcases Nat.lt_or_ge i k with h | h
          ·exact HALL.out i h
          ·rw [show i = k by omega, <- HM1.out, <- HM2.out]
           unfold lk1B
           rw [decide_eq_true ⟨HM.out.1, HM.out.2, rfl⟩, Bool.true_and, Bool.and_eq_true]
           exact ⟨decide_eq_true (fun i hi => (HJ.out i (by omega)).1), decide_eq_true (fun i hi => (HJ.out i (by omega)).2)⟩
         have HBN : Hid (Below w3.heap.size w3 wr) := HB35.out wr hbq
         clear hbq f8
         go_wp2
         go_roundw
         case measure => simp [intOf]; omega
         case rel => exact ⟨k + 1, by go_num, hlt, HBN.out, HA⟩
      ·have hki : ¬ (k : Int) < (l : Int) := by omega
       have HLKS : Hid (lksB n T l ni nt In Tb = true) := by
        show lksB n T l ni nt In Tb = true
        unfold lksB; rw [decide_eq_true (by omega), Bool.true_and]; exact decide_eq_true (fun i hi => HALL.out i (by omega))
       have HBR : Hid (Below w3.heap.size w3 wr) := hbr
       clear HALL hbr
       go_wp2
       clear d0 d1 d2 d3 d4 d5 d6 hki
       go_loopw [10] (fun iv wr => ∃ k : Nat, iv = .int .i64 (k : Int) /\ k <= m /\ Below w3.heap.size w3 wr /\ Hid (∀ i, i < k -> eqP F A I E i = true)) (fun iv _ => m - (intOf iv).toNat)
       case atStart => exact ⟨0, rfl, Nat.zero_le _, HBR.out, fun i hi => by omega⟩
       case round =>
        obtain ⟨k, rfl, hk, hbr, HALL⟩ := hrel
        clear HBR
        obtain ⟨d0, d1, d2, d3, d4, d5, d6⟩ := cells7 (HFB.out wr hbr)
        by_cases hlt : k < m
        ·have hki : (k : Int) < (m : Int) := by omega
         have hk0 : (0 : Int) <= (k : Int) := by omega
         have hez := (HCW.out w3 hb33).2.2.2
         rcases hez with ⟨_, h0⟩ | ⟨eb, eo, c', hv, _, _, leb, hcell⟩
         ·omega
         cases hv
         have HEE : Hid (∀ w', Below w3.heap.size w3 w' -> ∀ j, j < m -> w'.cell? ⟨eb, eo + j * 2, none⟩ = some (.int .i64 (E j).1) /\ w'.cell? ⟨eb, eo + j * 2 + 1, none⟩ = some (.int .i64 (E j).2)) := fun w' hb j hj => by
          rw [hb.cell (p := ⟨eb, eo + j * 2, none⟩) leb, hb.cell (p := ⟨eb, eo + j * 2 + 1, none⟩) leb]
          have h0 := hcell j hj 0 (by decide)
          have h1 := hcell j hj 1 (by decide)
          rw [Nat.add_zero] at h0
          exact ⟨h0, h1⟩
         obtain ⟨X, Y, hE⟩ : ∃ X Y, E k = (X, Y) := ⟨_, _, rfl⟩
         have HE : Hid (E k = (X, Y)) := hE
         obtain ⟨a0, a1⟩ := HEE.out wr hbr k hlt
         rw [hE] at a0 a1
         obtain ⟨w6, ew6⟩ := lv (wr.alloc (.cells #[.int .i64 X, .int .i64 Y] 85))
         have hb6 : Below wr.heap.size wr w6 := by rw [ew6]; exact bAlloc (Below.refl _ _) _
         obtain ⟨b11, eb11⟩ := lv (wr.heap.size)
         have f6 : w6.heap[b11]? = some (.cells #[.int .i64 X, .int .i64 Y] 85) := by rw [ew6, eb11]; show (wr.heap.push _)[wr.heap.size]? = _; simp
         have HFC : Hid (∀ w', Below w6.heap.size w6 w' -> w'.heap[b11]? = some (.cells #[.int .i64 X, .int .i64 Y] 85)) := fun w' h => (h.block b11 (Array.getElem?_eq_some_iff.1 f6).1).trans f6
         have HB36 : Hid (∀ w', Below w6.heap.size w6 w' -> Below w3.heap.size w3 w') := fun w' h => bStep (bStep hbr hb6) h
         clear hcell leb hE hb6 f6 hbr
         dsimp only at a0 a1
         go_upto_region 32 with fail
         rw [<- ew6, <- eb11]
         clear ew6 eb11 d0 d1 d2 d3 d4 d5 d6 a0 a1
         by_cases x2 : X < 2
         ·refine wp_region_Z (fun w' => Below w6.heap.size w6 w') 23 (by kernel_rfl) ?_
          obtain ⟨wD, hD⟩ := lv (w6.drew)
          rw [<- hD]
          have hp : Below w6.heap.size w6 wD := by rw [hD]; exact (Below.refl _ _).drew
          clear hD
          refine zs 0 150 (.pointer (some ⟨b11, 0, none⟩)) hp ?_
          refine zT 1 151 (.int .i64 X) rfl rfl (fun w hSw => by have h11 := HFC.out w hSw; have x0 : w.cell? ⟨b11, 0, none⟩ = some (.int .i64 X) := cell_of_block h11 0; have x1 : w.cell? ⟨b11, 1, none⟩ = some (.int .i64 Y) := cell_of_block h11 1; obtain ⟨m0, m1, m2⟩ := cells3 (HF4.out w (HB36.out w hSw)); go_simp) hp ?_
          refine zs 2 152 (.bool true) hp ?_
          refine zs 3 153 (.bool true) hp ?_
          refine zU 4 154 hp ?_
          refine zU 5 155 hp ?_
          refine zU 6 156 hp ?_
          refine zs 7 157 (.bool true) hp ?_
          refine zs 8 158 (.bool true) hp ?_
          refine zU 9 159 hp ?_
          refine zU 10 160 hp ?_
          refine zU 11 161 hp ?_
          refine zs 12 162 (.bool true) hp ?_
          refine zs 13 163 (.bool true) hp ?_
          refine zU 14 164 hp ?_
          refine zU 15 165 hp ?_
          refine zU 16 166 hp ?_
          refine zU 17 167 hp ?_
          refine zU 18 168 hp ?_
          refine zU 19 169 hp ?_
          refine zU 20 170 hp ?_
          refine zU 21 171 hp ?_
          refine zs 22 172 (.bool true) hp ?_
          refine zd ?_ _
          have hqD : Below w3.heap.size w3 wD := HB36.out wD hp
          clear hp
          have HX : Hid (rb = false) := by rw [HRB.out]; exact rgt_no F A I n T g G l ni nt In Tb m E (Or.inr (Or.inr (Or.inr (Or.inl (eq_no k hlt (eqP_kind (by rw [HE.out]; show X < 2 \/ 4 < X; omega)))))))
          have HBF : Hid (Below w.heap.size w wD) := HB3W.out wD (by assumption)
          go_wp2
          go_ret
          exact ⟨by rw [HX.out]; rfl, HBF.out⟩
         have x2' : 2 <= X := by omega
         by_cases x4 : 4 < X
         ·refine wp_region_Z (fun w' => Below w6.heap.size w6 w') 23 (by kernel_rfl) ?_
          obtain ⟨wD, hD⟩ := lv (w6.drew)
          rw [<- hD]
          have hp : Below w6.heap.size w6 wD := by rw [hD]; exact (Below.refl _ _).drew
          clear hD
          refine zs 0 150 (.pointer (some ⟨b11, 0, none⟩)) hp ?_
          refine zT 1 151 (.int .i64 X) rfl rfl (fun w hSw => by have h11 := HFC.out w hSw; have x0 : w.cell? ⟨b11, 0, none⟩ = some (.int .i64 X) := cell_of_block h11 0; have x1 : w.cell? ⟨b11, 1, none⟩ = some (.int .i64 Y) := cell_of_block h11 1; obtain ⟨m0, m1, m2⟩ := cells3 (HF4.out w (HB36.out w hSw)); go_simp) hp ?_
          refine zs 2 152 (.bool false) hp ?_
          refine zs 3 153 (.bool false) hp ?_
          refine zs 4 154 (.pointer (some ⟨b11, 0, none⟩)) hp ?_
          refine zT 5 155 (.int .i64 X) rfl rfl (fun w hSw => by have h11 := HFC.out w hSw; have x0 : w.cell? ⟨b11, 0, none⟩ = some (.int .i64 X) := cell_of_block h11 0; have x1 : w.cell? ⟨b11, 1, none⟩ = some (.int .i64 Y) := cell_of_block h11 1; obtain ⟨m0, m1, m2⟩ := cells3 (HF4.out w (HB36.out w hSw)); go_simp) hp ?_
          refine zs 6 156 (.bool true) hp ?_
          refine zs 7 157 (.bool true) hp ?_
          refine zs 8 158 (.bool true) hp ?_
          refine zU 9 159 hp ?_
          refine zU 10 160 hp ?_
          refine zU 11 161 hp ?_
          refine zs 12 162 (.bool true) hp ?_
          refine zs 13 163 (.bool true) hp ?_
          refine zU 14 164 hp ?_
          refine zU 15 165 hp ?_
          refine zU 16 166 hp ?_
          refine zU 17 167 hp ?_
          refine zU 18 168 hp ?_
          refine zU 19 169 hp ?_
          refine zU 20 170 hp ?_
          refine zU 21 171 hp ?_
          refine zs 22 172 (.bool true) hp ?_
          refine zd ?_ _
          have hqD : Below w3.heap.size w3 wD := HB36.out wD hp
          clear hp
          have HX : Hid (rb = false) := by rw [HRB.out]; exact rgt_no F A I n T g G l ni nt In Tb m E (Or.inr (Or.inr (Or.inr (Or.inl (eq_no k hlt (eqP_kind (by rw [HE.out]; show X < 2 \/ 4 < X; omega)))))))
          have HBF : Hid (Below w.heap.size w wD) := HB3W.out wD (by assumption)
          go_wp2
          go_ret
          exact ⟨by rw [HX.out]; rfl, HBF.out⟩
         have hX : X = 2 \/ X = 3 \/ X = 4 := by omega
         clear x2 x2' x4
         rcases hX with rfl | rfl | rfl
         ·by_cases y0 : Y < 0
          ·refine wp_region_Z (fun w' => Below w6.heap.size w6 w') 23 (by kernel_rfl) ?_
           obtain ⟨wD, hD⟩ := lv (w6.drew)
           rw [<- hD]
           have hp : Below w6.heap.size w6 wD := by rw [hD]; exact (Below.refl _ _).drew
           clear hD
           refine zs 0 150 (.pointer (some ⟨b11, 0, none⟩)) hp ?_
           refine zT 1 151 (.int .i64 2) rfl rfl (fun w hSw => by have h11 := HFC.out w hSw; have x0 : w.cell? ⟨b11, 0, none⟩ = some (.int .i64 2) := cell_of_block h11 0; have x1 : w.cell? ⟨b11, 1, none⟩ = some (.int .i64 Y) := cell_of_block h11 1; obtain ⟨m0, m1, m2⟩ := cells3 (HF4.out w (HB36.out w hSw)); go_simp) hp ?_
           refine zs 2 152 (.bool false) hp ?_
           refine zs 3 153 (.bool false) hp ?_
           refine zs 4 154 (.pointer (some ⟨b11, 0, none⟩)) hp ?_
           refine zT 5 155 (.int .i64 2) rfl rfl (fun w hSw => by have h11 := HFC.out w hSw; have x0 : w.cell? ⟨b11, 0, none⟩ = some (.int .i64 2) := cell_of_block h11 0; have x1 : w.cell? ⟨b11, 1, none⟩ = some (.int .i64 Y) := cell_of_block h11 1; obtain ⟨m0, m1, m2⟩ := cells3 (HF4.out w (HB36.out w hSw)); go_simp) hp ?_
           refine zs 6 156 (.bool false) hp ?_
           refine zs 7 157 (.bool false) hp ?_
           refine zs 8 158 (.bool false) hp ?_
           refine zs 9 159 (.pointer (some ⟨b11, 1, none⟩)) hp ?_
           refine zT 10 160 (.int .i64 Y) rfl rfl (fun w hSw => by have h11 := HFC.out w hSw; have x0 : w.cell? ⟨b11, 0, none⟩ = some (.int .i64 2) := cell_of_block h11 0; have x1 : w.cell? ⟨b11, 1, none⟩ = some (.int .i64 Y) := cell_of_block h11 1; obtain ⟨m0, m1, m2⟩ := cells3 (HF4.out w (HB36.out w hSw)); go_simp) hp ?_
           refine zs 11 161 (.bool true) hp ?_
           refine zs 12 162 (.bool true) hp ?_
           refine zs 13 163 (.bool true) hp ?_
           refine zU 14 164 hp ?_
           refine zU 15 165 hp ?_
           refine zU 16 166 hp ?_
           refine zU 17 167 hp ?_
           refine zU 18 168 hp ?_
           refine zU 19 169 hp ?_
           refine zU 20 170 hp ?_
           refine zU 21 171 hp ?_
           refine zs 22 172 (.bool true) hp ?_
           refine zd ?_ _
           have hqD : Below w3.heap.size w3 wD := HB36.out wD hp
           clear hp
           have HX : Hid (rb = false) := by rw [HRB.out]; exact rgt_no F A I n T g G l ni nt In Tb m E (Or.inr (Or.inr (Or.inr (Or.inl (eq_no k hlt (eqP_col (by rw [HE.out]; show Y < 0 \/ F <= Y; omega)))))))
           have HBF : Hid (Below w.heap.size w wD) := HB3W.out wD (by assumption)
           go_wp2
           go_ret
           exact ⟨by rw [HX.out]; rfl, HBF.out⟩
          have y0' : 0 <= Y := by omega
          by_cases y1 : F <= Y
          ·refine wp_region_Z (fun w' => Below w6.heap.size w6 w') 23 (by kernel_rfl) ?_
           obtain ⟨wD, hD⟩ := lv (w6.drew)
           rw [<- hD]
           have hp : Below w6.heap.size w6 wD := by rw [hD]; exact (Below.refl _ _).drew
           clear hD
           refine zs 0 150 (.pointer (some ⟨b11, 0, none⟩)) hp ?_
           refine zT 1 151 (.int .i64 2) rfl rfl (fun w hSw => by have h11 := HFC.out w hSw; have x0 : w.cell? ⟨b11, 0, none⟩ = some (.int .i64 2) := cell_of_block h11 0; have x1 : w.cell? ⟨b11, 1, none⟩ = some (.int .i64 Y) := cell_of_block h11 1; obtain ⟨m0, m1, m2⟩ := cells3 (HF4.out w (HB36.out w hSw)); go_simp) hp ?_
           refine zs 2 152 (.bool false) hp ?_
           refine zs 3 153 (.bool false) hp ?_
           refine zs 4 154 (.pointer (some ⟨b11, 0, none⟩)) hp ?_
           refine zT 5 155 (.int .i64 2) rfl rfl (fun w hSw => by have h11 := HFC.out w hSw; have x0 : w.cell? ⟨b11, 0, none⟩ = some (.int .i64 2) := cell_of_block h11 0; have x1 : w.cell? ⟨b11, 1, none⟩ = some (.int .i64 Y) := cell_of_block h11 1; obtain ⟨m0, m1, m2⟩ := cells3 (HF4.out w (HB36.out w hSw)); go_simp) hp ?_
           refine zs 6 156 (.bool false) hp ?_
           refine zs 7 157 (.bool false) hp ?_
           refine zs 8 158 (.bool false) hp ?_
           refine zs 9 159 (.pointer (some ⟨b11, 1, none⟩)) hp ?_
           refine zT 10 160 (.int .i64 Y) rfl rfl (fun w hSw => by have h11 := HFC.out w hSw; have x0 : w.cell? ⟨b11, 0, none⟩ = some (.int .i64 2) := cell_of_block h11 0; have x1 : w.cell? ⟨b11, 1, none⟩ = some (.int .i64 Y) := cell_of_block h11 1; obtain ⟨m0, m1, m2⟩ := cells3 (HF4.out w (HB36.out w hSw)); go_simp) hp ?_
           refine zs 11 161 (.bool false) hp ?_
           refine zs 12 162 (.bool false) hp ?_
           refine zs 13 163 (.bool false) hp ?_
           refine zs 14 164 (.pointer (some ⟨b11, 1, none⟩)) hp ?_
           refine zT 15 165 (.int .i64 Y) rfl rfl (fun w hSw => by have h11 := HFC.out w hSw; have x0 : w.cell? ⟨b11, 0, none⟩ = some (.int .i64 2) := cell_of_block h11 0; have x1 : w.cell? ⟨b11, 1, none⟩ = some (.int .i64 Y) := cell_of_block h11 1; obtain ⟨m0, m1, m2⟩ := cells3 (HF4.out w (HB36.out w hSw)); go_simp) hp ?_
           refine zs 16 166 (.pointer (some ⟨b11, 0, none⟩)) hp ?_
           refine zT 17 167 (.int .i64 2) rfl rfl (fun w hSw => by have h11 := HFC.out w hSw; have x0 : w.cell? ⟨b11, 0, none⟩ = some (.int .i64 2) := cell_of_block h11 0; have x1 : w.cell? ⟨b11, 1, none⟩ = some (.int .i64 Y) := cell_of_block h11 1; obtain ⟨m0, m1, m2⟩ := cells3 (HF4.out w (HB36.out w hSw)); go_simp) hp ?_
           refine zT 18 168 (.int .i64 0) rfl rfl (fun w hSw => by go_simp; rfl) hp ?_
           refine zs 19 169 (.pointer (some ⟨b4, 0, none⟩)) hp ?_
           refine zT 20 170 (.int .i64 F) rfl rfl (fun w hSw => by have h11 := HFC.out w hSw; have x0 : w.cell? ⟨b11, 0, none⟩ = some (.int .i64 2) := cell_of_block h11 0; have x1 : w.cell? ⟨b11, 1, none⟩ = some (.int .i64 Y) := cell_of_block h11 1; obtain ⟨m0, m1, m2⟩ := cells3 (HF4.out w (HB36.out w hSw)); go_simp) hp ?_
           refine zs 21 171 (.bool true) hp ?_
           refine zs 22 172 (.bool true) hp ?_
           refine zd ?_ _
           have hqD : Below w3.heap.size w3 wD := HB36.out wD hp
           clear hp
           have HX : Hid (rb = false) := by rw [HRB.out]; exact rgt_no F A I n T g G l ni nt In Tb m E (Or.inr (Or.inr (Or.inr (Or.inl (eq_no k hlt (eqP_col (by rw [HE.out]; show Y < 0 \/ F <= Y; omega)))))))
           have HBF : Hid (Below w.heap.size w wD) := HB3W.out wD (by assumption)
           go_wp2
           go_ret
           exact ⟨by rw [HX.out]; rfl, HBF.out⟩
          have y1' : Y < F := by omega
          have HOKE : Hid ((∀ i, i < k -> E i ≠ E k) -> eqP F A I E k = true) := fun h => eqP_yes h (by rw [HE.out]; show 0 <= Y /\ Y < F; exact ⟨y0', y1'⟩)
          refine wp_region_Z (fun w' => Below w6.heap.size w6 w') 23 (by kernel_rfl) ?_
          obtain ⟨wD, hD⟩ := lv (w6.drew)
          rw [<- hD]
          have hp : Below w6.heap.size w6 wD := by rw [hD]; exact (Below.refl _ _).drew
          clear hD
          refine zs 0 150 (.pointer (some ⟨b11, 0, none⟩)) hp ?_
          refine zT 1 151 (.int .i64 2) rfl rfl (fun w hSw => by have h11 := HFC.out w hSw; have x0 : w.cell? ⟨b11, 0, none⟩ = some (.int .i64 2) := cell_of_block h11 0; have x1 : w.cell? ⟨b11, 1, none⟩ = some (.int .i64 Y) := cell_of_block h11 1; obtain ⟨m0, m1, m2⟩ := cells3 (HF4.out w (HB36.out w hSw)); go_simp) hp ?_
          refine zs 2 152 (.bool false) hp ?_
          refine zs 3 153 (.bool false) hp ?_
          refine zs 4 154 (.pointer (some ⟨b11, 0, none⟩)) hp ?_
          refine zT 5 155 (.int .i64 2) rfl rfl (fun w hSw => by have h11 := HFC.out w hSw; have x0 : w.cell? ⟨b11, 0, none⟩ = some (.int .i64 2) := cell_of_block h11 0; have x1 : w.cell? ⟨b11, 1, none⟩ = some (.int .i64 Y) := cell_of_block h11 1; obtain ⟨m0, m1, m2⟩ := cells3 (HF4.out w (HB36.out w hSw)); go_simp) hp ?_
          refine zs 6 156 (.bool false) hp ?_
          refine zs 7 157 (.bool false) hp ?_
          refine zs 8 158 (.bool false) hp ?_
          refine zs 9 159 (.pointer (some ⟨b11, 1, none⟩)) hp ?_
          refine zT 10 160 (.int .i64 Y) rfl rfl (fun w hSw => by have h11 := HFC.out w hSw; have x0 : w.cell? ⟨b11, 0, none⟩ = some (.int .i64 2) := cell_of_block h11 0; have x1 : w.cell? ⟨b11, 1, none⟩ = some (.int .i64 Y) := cell_of_block h11 1; obtain ⟨m0, m1, m2⟩ := cells3 (HF4.out w (HB36.out w hSw)); go_simp) hp ?_
          refine zs 11 161 (.bool false) hp ?_
          refine zs 12 162 (.bool false) hp ?_
          refine zs 13 163 (.bool false) hp ?_
          refine zs 14 164 (.pointer (some ⟨b11, 1, none⟩)) hp ?_
          refine zT 15 165 (.int .i64 Y) rfl rfl (fun w hSw => by have h11 := HFC.out w hSw; have x0 : w.cell? ⟨b11, 0, none⟩ = some (.int .i64 2) := cell_of_block h11 0; have x1 : w.cell? ⟨b11, 1, none⟩ = some (.int .i64 Y) := cell_of_block h11 1; obtain ⟨m0, m1, m2⟩ := cells3 (HF4.out w (HB36.out w hSw)); go_simp) hp ?_
          refine zs 16 166 (.pointer (some ⟨b11, 0, none⟩)) hp ?_
          refine zT 17 167 (.int .i64 2) rfl rfl (fun w hSw => by have h11 := HFC.out w hSw; have x0 : w.cell? ⟨b11, 0, none⟩ = some (.int .i64 2) := cell_of_block h11 0; have x1 : w.cell? ⟨b11, 1, none⟩ = some (.int .i64 Y) := cell_of_block h11 1; obtain ⟨m0, m1, m2⟩ := cells3 (HF4.out w (HB36.out w hSw)); go_simp) hp ?_
          refine zT 18 168 (.int .i64 0) rfl rfl (fun w hSw => by go_simp; rfl) hp ?_
          refine zs 19 169 (.pointer (some ⟨b4, 0, none⟩)) hp ?_
          refine zT 20 170 (.int .i64 F) rfl rfl (fun w hSw => by have h11 := HFC.out w hSw; have x0 : w.cell? ⟨b11, 0, none⟩ = some (.int .i64 2) := cell_of_block h11 0; have x1 : w.cell? ⟨b11, 1, none⟩ = some (.int .i64 Y) := cell_of_block h11 1; obtain ⟨m0, m1, m2⟩ := cells3 (HF4.out w (HB36.out w hSw)); go_simp) hp ?_
          refine zs 21 171 (.bool false) hp ?_
          refine zs 22 172 (.bool false) hp ?_
          refine zd ?_ _
          have HBD : Hid (Below w6.heap.size w6 wD) := hp
          clear hp
          go_wp2
          go_loopw [12] (fun iv wq => ∃ j : Nat, iv = .int .i64 (j : Int) /\ j <= k /\ Below w6.heap.size w6 wq /\ Hid (∀ i, i < j -> E i ≠ E k)) (fun iv _ => k - (intOf iv).toNat)
          case atStart => exact ⟨0, rfl, Nat.zero_le _, HBD.out, fun i hi => by omega⟩
          case round =>
           obtain ⟨j, rfl, hj, hbq, HJ⟩ := hrel
           clear HBD
           by_cases hjl : j < k
           ·have hji : (j : Int) < (k : Int) := by omega
            have hj0 : (0 : Int) <= (j : Int) := by omega
            have hjm : (j : Int) < (m : Int) := by omega
            obtain ⟨x, y, hxy⟩ : ∃ x y, E j = (x, y) := ⟨_, _, rfl⟩
            have HXY : Hid (E j = (x, y)) := hxy
            have HEC : Hid (∀ w', Below w3.heap.size w3 w' -> w'.cell? ⟨eb, eo + j * 2, none⟩ = some (.int .i64 x) /\ w'.cell? ⟨eb, eo + j * 2 + 1, none⟩ = some (.int .i64 y)) := fun w' hb => by have h := HEE.out w' hb j (by omega); rw [hxy] at h; exact h
            have HBQ : Hid (Below w6.heap.size w6 wr) := hbq
            have d6 := (cells7 (HFB.out wr (HB36.out wr hbq))).2.2.2.2.2.2
            clear hxy hbq
            go_upto_region 37 with fail
            clear d6
            refine wp_region_Z (fun w' => Below w6.heap.size w6 w') 7 (by kernel_rfl) ?_
            obtain ⟨wD, hD⟩ := lv (wr.drew)
            rw [<- hD]
            have hp : Below w6.heap.size w6 wD := by rw [hD]; exact (HBQ.out).drew
            clear hD
            refine zs 0 178 (.pointer (some ⟨b1, 6, none⟩)) hp ?_
            refine zT 1 179 (.slice (some ⟨eb, eo, none⟩) m cE) rfl rfl (fun w hSw => by obtain ⟨d0, d1, d2, d3, d4, d5, d6⟩ := cells7 (HFB.out w (HB36.out w hSw)); have h11 := HFC.out w hSw; have x0 : w.cell? ⟨b11, 0, none⟩ = some (.int .i64 2) := cell_of_block h11 0; have x1 : w.cell? ⟨b11, 1, none⟩ = some (.int .i64 Y) := cell_of_block h11 1; obtain ⟨e0, e1⟩ := HEC.out w (HB36.out w hSw); go_simp) hp ?_
            refine zs 2 180 (.int .i64 (j : Int)) hp ?_
            refine zs 3 181 (.pointer (some ⟨eb, eo + j * 2, none⟩)) hp ?_
            refine zT 4 182 (.agg #[.int .i64 x, .int .i64 y]) rfl rfl (fun w hSw => by obtain ⟨d0, d1, d2, d3, d4, d5, d6⟩ := cells7 (HFB.out w (HB36.out w hSw)); have h11 := HFC.out w hSw; have x0 : w.cell? ⟨b11, 0, none⟩ = some (.int .i64 2) := cell_of_block h11 0; have x1 : w.cell? ⟨b11, 1, none⟩ = some (.int .i64 Y) := cell_of_block h11 1; obtain ⟨e0, e1⟩ := HEC.out w (HB36.out w hSw); go_simp) hp ?_
            refine zT 5 183 (.agg #[.int .i64 2, .int .i64 Y]) rfl rfl (fun w hSw => by obtain ⟨d0, d1, d2, d3, d4, d5, d6⟩ := cells7 (HFB.out w (HB36.out w hSw)); have h11 := HFC.out w hSw; have x0 : w.cell? ⟨b11, 0, none⟩ = some (.int .i64 2) := cell_of_block h11 0; have x1 : w.cell? ⟨b11, 1, none⟩ = some (.int .i64 Y) := cell_of_block h11 1; obtain ⟨e0, e1⟩ := HEC.out w (HB36.out w hSw); go_simp) hp ?_
            refine zT 6 184 (.bool (eqI x y 2 Y)) rfl rfl (fun w hSw => by go_simp; exact ite2 x y 2 Y w) hp ?_
            refine zd ?_ _
            have hqD : Below w3.heap.size w3 wD := HB36.out wD hp
            by_cases he : (x, y) = ((2 : Int), Y)
            ·have hed : eqI x y 2 Y = true := decide_eq_true he
             rw [hed]
             have hne : eqP F A I E k = false := eqP_dup j hjl (by rw [HXY.out, HE.out]; exact he)
             clear hed he
             have HX : Hid (rb = false) := by rw [HRB.out]; exact rgt_no F A I n T g G l ni nt In Tb m E (Or.inr (Or.inr (Or.inr (Or.inl (eq_no k hlt hne)))))
             have HBF : Hid (Below w.heap.size w wD) := HB3W.out wD (by assumption)
             go_wp2
             go_ret
             exact ⟨by rw [HX.out]; rfl, HBF.out⟩
            ·have hed : eqI x y 2 Y = false := decide_eq_false he
             rw [hed]
             have HJ1 : Hid (∀ i, i < j + 1 -> E i ≠ E k) := fun i hi => by
              rcases Nat.lt_or_ge i j with h | h
              ·exact HJ.out i h
              ·rw [show i = j by omega, HXY.out, HE.out]; exact he
             have HBN : Hid (Below w6.heap.size w6 wD) := hp
             clear hed he hp hqD
             go_wp2
             go_roundw
             case measure => simp [intOf]; omega
             case rel => exact ⟨j + 1, by go_num, hjl, HBN.out, HJ1⟩
           ·have hji : ¬ (j : Int) < (k : Int) := by omega
            have HA : Hid (∀ i, i < k + 1 -> eqP F A I E i = true) := fun i hi => by
             rcases Nat.lt_or_ge i k with h | h
             ·exact HALL.out i h
             ·rw [show i = k by omega]; exact HOKE.out (fun i hi => HJ.out i (by omega))
            have HBN : Hid (Below w3.heap.size w3 wr) := HB36.out wr hbq
            clear hbq
            go_wp2
            go_roundw
            case measure => simp [intOf]; omega
            case rel => exact ⟨k + 1, by go_num, hlt, HBN.out, HA⟩
         ·by_cases y0 : Y < 0
          ·refine wp_region_Z (fun w' => Below w6.heap.size w6 w') 23 (by kernel_rfl) ?_
           obtain ⟨wD, hD⟩ := lv (w6.drew)
           rw [<- hD]
           have hp : Below w6.heap.size w6 wD := by rw [hD]; exact (Below.refl _ _).drew
           clear hD
           refine zs 0 150 (.pointer (some ⟨b11, 0, none⟩)) hp ?_
           refine zT 1 151 (.int .i64 3) rfl rfl (fun w hSw => by have h11 := HFC.out w hSw; have x0 : w.cell? ⟨b11, 0, none⟩ = some (.int .i64 3) := cell_of_block h11 0; have x1 : w.cell? ⟨b11, 1, none⟩ = some (.int .i64 Y) := cell_of_block h11 1; obtain ⟨m0, m1, m2⟩ := cells3 (HF4.out w (HB36.out w hSw)); go_simp) hp ?_
           refine zs 2 152 (.bool false) hp ?_
           refine zs 3 153 (.bool false) hp ?_
           refine zs 4 154 (.pointer (some ⟨b11, 0, none⟩)) hp ?_
           refine zT 5 155 (.int .i64 3) rfl rfl (fun w hSw => by have h11 := HFC.out w hSw; have x0 : w.cell? ⟨b11, 0, none⟩ = some (.int .i64 3) := cell_of_block h11 0; have x1 : w.cell? ⟨b11, 1, none⟩ = some (.int .i64 Y) := cell_of_block h11 1; obtain ⟨m0, m1, m2⟩ := cells3 (HF4.out w (HB36.out w hSw)); go_simp) hp ?_
           refine zs 6 156 (.bool false) hp ?_
           refine zs 7 157 (.bool false) hp ?_
           refine zs 8 158 (.bool false) hp ?_
           refine zs 9 159 (.pointer (some ⟨b11, 1, none⟩)) hp ?_
           refine zT 10 160 (.int .i64 Y) rfl rfl (fun w hSw => by have h11 := HFC.out w hSw; have x0 : w.cell? ⟨b11, 0, none⟩ = some (.int .i64 3) := cell_of_block h11 0; have x1 : w.cell? ⟨b11, 1, none⟩ = some (.int .i64 Y) := cell_of_block h11 1; obtain ⟨m0, m1, m2⟩ := cells3 (HF4.out w (HB36.out w hSw)); go_simp) hp ?_
           refine zs 11 161 (.bool true) hp ?_
           refine zs 12 162 (.bool true) hp ?_
           refine zs 13 163 (.bool true) hp ?_
           refine zU 14 164 hp ?_
           refine zU 15 165 hp ?_
           refine zU 16 166 hp ?_
           refine zU 17 167 hp ?_
           refine zU 18 168 hp ?_
           refine zU 19 169 hp ?_
           refine zU 20 170 hp ?_
           refine zU 21 171 hp ?_
           refine zs 22 172 (.bool true) hp ?_
           refine zd ?_ _
           have hqD : Below w3.heap.size w3 wD := HB36.out wD hp
           clear hp
           have HX : Hid (rb = false) := by rw [HRB.out]; exact rgt_no F A I n T g G l ni nt In Tb m E (Or.inr (Or.inr (Or.inr (Or.inl (eq_no k hlt (eqP_col (by rw [HE.out]; show Y < 0 \/ A <= Y; omega)))))))
           have HBF : Hid (Below w.heap.size w wD) := HB3W.out wD (by assumption)
           go_wp2
           go_ret
           exact ⟨by rw [HX.out]; rfl, HBF.out⟩
          have y0' : 0 <= Y := by omega
          by_cases y1 : A <= Y
          ·refine wp_region_Z (fun w' => Below w6.heap.size w6 w') 23 (by kernel_rfl) ?_
           obtain ⟨wD, hD⟩ := lv (w6.drew)
           rw [<- hD]
           have hp : Below w6.heap.size w6 wD := by rw [hD]; exact (Below.refl _ _).drew
           clear hD
           refine zs 0 150 (.pointer (some ⟨b11, 0, none⟩)) hp ?_
           refine zT 1 151 (.int .i64 3) rfl rfl (fun w hSw => by have h11 := HFC.out w hSw; have x0 : w.cell? ⟨b11, 0, none⟩ = some (.int .i64 3) := cell_of_block h11 0; have x1 : w.cell? ⟨b11, 1, none⟩ = some (.int .i64 Y) := cell_of_block h11 1; obtain ⟨m0, m1, m2⟩ := cells3 (HF4.out w (HB36.out w hSw)); go_simp) hp ?_
           refine zs 2 152 (.bool false) hp ?_
           refine zs 3 153 (.bool false) hp ?_
           refine zs 4 154 (.pointer (some ⟨b11, 0, none⟩)) hp ?_
           refine zT 5 155 (.int .i64 3) rfl rfl (fun w hSw => by have h11 := HFC.out w hSw; have x0 : w.cell? ⟨b11, 0, none⟩ = some (.int .i64 3) := cell_of_block h11 0; have x1 : w.cell? ⟨b11, 1, none⟩ = some (.int .i64 Y) := cell_of_block h11 1; obtain ⟨m0, m1, m2⟩ := cells3 (HF4.out w (HB36.out w hSw)); go_simp) hp ?_
           refine zs 6 156 (.bool false) hp ?_
           refine zs 7 157 (.bool false) hp ?_
           refine zs 8 158 (.bool false) hp ?_
           refine zs 9 159 (.pointer (some ⟨b11, 1, none⟩)) hp ?_
           refine zT 10 160 (.int .i64 Y) rfl rfl (fun w hSw => by have h11 := HFC.out w hSw; have x0 : w.cell? ⟨b11, 0, none⟩ = some (.int .i64 3) := cell_of_block h11 0; have x1 : w.cell? ⟨b11, 1, none⟩ = some (.int .i64 Y) := cell_of_block h11 1; obtain ⟨m0, m1, m2⟩ := cells3 (HF4.out w (HB36.out w hSw)); go_simp) hp ?_
           refine zs 11 161 (.bool false) hp ?_
           refine zs 12 162 (.bool false) hp ?_
           refine zs 13 163 (.bool false) hp ?_
           refine zs 14 164 (.pointer (some ⟨b11, 1, none⟩)) hp ?_
           refine zT 15 165 (.int .i64 Y) rfl rfl (fun w hSw => by have h11 := HFC.out w hSw; have x0 : w.cell? ⟨b11, 0, none⟩ = some (.int .i64 3) := cell_of_block h11 0; have x1 : w.cell? ⟨b11, 1, none⟩ = some (.int .i64 Y) := cell_of_block h11 1; obtain ⟨m0, m1, m2⟩ := cells3 (HF4.out w (HB36.out w hSw)); go_simp) hp ?_
           refine zs 16 166 (.pointer (some ⟨b11, 0, none⟩)) hp ?_
           refine zT 17 167 (.int .i64 3) rfl rfl (fun w hSw => by have h11 := HFC.out w hSw; have x0 : w.cell? ⟨b11, 0, none⟩ = some (.int .i64 3) := cell_of_block h11 0; have x1 : w.cell? ⟨b11, 1, none⟩ = some (.int .i64 Y) := cell_of_block h11 1; obtain ⟨m0, m1, m2⟩ := cells3 (HF4.out w (HB36.out w hSw)); go_simp) hp ?_
           refine zT 18 168 (.int .i64 1) rfl rfl (fun w hSw => by go_simp; rfl) hp ?_
           refine zs 19 169 (.pointer (some ⟨b4, 1, none⟩)) hp ?_
           refine zT 20 170 (.int .i64 A) rfl rfl (fun w hSw => by have h11 := HFC.out w hSw; have x0 : w.cell? ⟨b11, 0, none⟩ = some (.int .i64 3) := cell_of_block h11 0; have x1 : w.cell? ⟨b11, 1, none⟩ = some (.int .i64 Y) := cell_of_block h11 1; obtain ⟨m0, m1, m2⟩ := cells3 (HF4.out w (HB36.out w hSw)); go_simp) hp ?_
           refine zs 21 171 (.bool true) hp ?_
           refine zs 22 172 (.bool true) hp ?_
           refine zd ?_ _
           have hqD : Below w3.heap.size w3 wD := HB36.out wD hp
           clear hp
           have HX : Hid (rb = false) := by rw [HRB.out]; exact rgt_no F A I n T g G l ni nt In Tb m E (Or.inr (Or.inr (Or.inr (Or.inl (eq_no k hlt (eqP_col (by rw [HE.out]; show Y < 0 \/ A <= Y; omega)))))))
           have HBF : Hid (Below w.heap.size w wD) := HB3W.out wD (by assumption)
           go_wp2
           go_ret
           exact ⟨by rw [HX.out]; rfl, HBF.out⟩
          have y1' : Y < A := by omega
          have HOKE : Hid ((∀ i, i < k -> E i ≠ E k) -> eqP F A I E k = true) := fun h => eqP_yes h (by rw [HE.out]; show 0 <= Y /\ Y < A; exact ⟨y0', y1'⟩)
          refine wp_region_Z (fun w' => Below w6.heap.size w6 w') 23 (by kernel_rfl) ?_
          obtain ⟨wD, hD⟩ := lv (w6.drew)
          rw [<- hD]
          have hp : Below w6.heap.size w6 wD := by rw [hD]; exact (Below.refl _ _).drew
          clear hD
          refine zs 0 150 (.pointer (some ⟨b11, 0, none⟩)) hp ?_
          refine zT 1 151 (.int .i64 3) rfl rfl (fun w hSw => by have h11 := HFC.out w hSw; have x0 : w.cell? ⟨b11, 0, none⟩ = some (.int .i64 3) := cell_of_block h11 0; have x1 : w.cell? ⟨b11, 1, none⟩ = some (.int .i64 Y) := cell_of_block h11 1; obtain ⟨m0, m1, m2⟩ := cells3 (HF4.out w (HB36.out w hSw)); go_simp) hp ?_
          refine zs 2 152 (.bool false) hp ?_
          refine zs 3 153 (.bool false) hp ?_
          refine zs 4 154 (.pointer (some ⟨b11, 0, none⟩)) hp ?_
          refine zT 5 155 (.int .i64 3) rfl rfl (fun w hSw => by have h11 := HFC.out w hSw; have x0 : w.cell? ⟨b11, 0, none⟩ = some (.int .i64 3) := cell_of_block h11 0; have x1 : w.cell? ⟨b11, 1, none⟩ = some (.int .i64 Y) := cell_of_block h11 1; obtain ⟨m0, m1, m2⟩ := cells3 (HF4.out w (HB36.out w hSw)); go_simp) hp ?_
          refine zs 6 156 (.bool false) hp ?_
          refine zs 7 157 (.bool false) hp ?_
          refine zs 8 158 (.bool false) hp ?_
          refine zs 9 159 (.pointer (some ⟨b11, 1, none⟩)) hp ?_
          refine zT 10 160 (.int .i64 Y) rfl rfl (fun w hSw => by have h11 := HFC.out w hSw; have x0 : w.cell? ⟨b11, 0, none⟩ = some (.int .i64 3) := cell_of_block h11 0; have x1 : w.cell? ⟨b11, 1, none⟩ = some (.int .i64 Y) := cell_of_block h11 1; obtain ⟨m0, m1, m2⟩ := cells3 (HF4.out w (HB36.out w hSw)); go_simp) hp ?_
          refine zs 11 161 (.bool false) hp ?_
          refine zs 12 162 (.bool false) hp ?_
          refine zs 13 163 (.bool false) hp ?_
          refine zs 14 164 (.pointer (some ⟨b11, 1, none⟩)) hp ?_
          refine zT 15 165 (.int .i64 Y) rfl rfl (fun w hSw => by have h11 := HFC.out w hSw; have x0 : w.cell? ⟨b11, 0, none⟩ = some (.int .i64 3) := cell_of_block h11 0; have x1 : w.cell? ⟨b11, 1, none⟩ = some (.int .i64 Y) := cell_of_block h11 1; obtain ⟨m0, m1, m2⟩ := cells3 (HF4.out w (HB36.out w hSw)); go_simp) hp ?_
          refine zs 16 166 (.pointer (some ⟨b11, 0, none⟩)) hp ?_
          refine zT 17 167 (.int .i64 3) rfl rfl (fun w hSw => by have h11 := HFC.out w hSw; have x0 : w.cell? ⟨b11, 0, none⟩ = some (.int .i64 3) := cell_of_block h11 0; have x1 : w.cell? ⟨b11, 1, none⟩ = some (.int .i64 Y) := cell_of_block h11 1; obtain ⟨m0, m1, m2⟩ := cells3 (HF4.out w (HB36.out w hSw)); go_simp) hp ?_
          refine zT 18 168 (.int .i64 1) rfl rfl (fun w hSw => by go_simp; rfl) hp ?_
          refine zs 19 169 (.pointer (some ⟨b4, 1, none⟩)) hp ?_
          refine zT 20 170 (.int .i64 A) rfl rfl (fun w hSw => by have h11 := HFC.out w hSw; have x0 : w.cell? ⟨b11, 0, none⟩ = some (.int .i64 3) := cell_of_block h11 0; have x1 : w.cell? ⟨b11, 1, none⟩ = some (.int .i64 Y) := cell_of_block h11 1; obtain ⟨m0, m1, m2⟩ := cells3 (HF4.out w (HB36.out w hSw)); go_simp) hp ?_
          refine zs 21 171 (.bool false) hp ?_
          refine zs 22 172 (.bool false) hp ?_
          refine zd ?_ _
          have HBD : Hid (Below w6.heap.size w6 wD) := hp
          clear hp
          go_wp2
          go_loopw [12] (fun iv wq => ∃ j : Nat, iv = .int .i64 (j : Int) /\ j <= k /\ Below w6.heap.size w6 wq /\ Hid (∀ i, i < j -> E i ≠ E k)) (fun iv _ => k - (intOf iv).toNat)
          case atStart => exact ⟨0, rfl, Nat.zero_le _, HBD.out, fun i hi => by omega⟩
          case round =>
           obtain ⟨j, rfl, hj, hbq, HJ⟩ := hrel
           clear HBD
           by_cases hjl : j < k
           ·have hji : (j : Int) < (k : Int) := by omega
            have hj0 : (0 : Int) <= (j : Int) := by omega
            have hjm : (j : Int) < (m : Int) := by omega
            obtain ⟨x, y, hxy⟩ : ∃ x y, E j = (x, y) := ⟨_, _, rfl⟩
            have HXY : Hid (E j = (x, y)) := hxy
            have HEC : Hid (∀ w', Below w3.heap.size w3 w' -> w'.cell? ⟨eb, eo + j * 2, none⟩ = some (.int .i64 x) /\ w'.cell? ⟨eb, eo + j * 2 + 1, none⟩ = some (.int .i64 y)) := fun w' hb => by have h := HEE.out w' hb j (by omega); rw [hxy] at h; exact h
            have HBQ : Hid (Below w6.heap.size w6 wr) := hbq
            have d6 := (cells7 (HFB.out wr (HB36.out wr hbq))).2.2.2.2.2.2
            clear hxy hbq
            go_upto_region 37 with fail
            clear d6
            refine wp_region_Z (fun w' => Below w6.heap.size w6 w') 7 (by kernel_rfl) ?_
            obtain ⟨wD, hD⟩ := lv (wr.drew)
            rw [<- hD]
            have hp : Below w6.heap.size w6 wD := by rw [hD]; exact (HBQ.out).drew
            clear hD
            refine zs 0 178 (.pointer (some ⟨b1, 6, none⟩)) hp ?_
            refine zT 1 179 (.slice (some ⟨eb, eo, none⟩) m cE) rfl rfl (fun w hSw => by obtain ⟨d0, d1, d2, d3, d4, d5, d6⟩ := cells7 (HFB.out w (HB36.out w hSw)); have h11 := HFC.out w hSw; have x0 : w.cell? ⟨b11, 0, none⟩ = some (.int .i64 3) := cell_of_block h11 0; have x1 : w.cell? ⟨b11, 1, none⟩ = some (.int .i64 Y) := cell_of_block h11 1; obtain ⟨e0, e1⟩ := HEC.out w (HB36.out w hSw); go_simp) hp ?_
            refine zs 2 180 (.int .i64 (j : Int)) hp ?_
            refine zs 3 181 (.pointer (some ⟨eb, eo + j * 2, none⟩)) hp ?_
            refine zT 4 182 (.agg #[.int .i64 x, .int .i64 y]) rfl rfl (fun w hSw => by obtain ⟨d0, d1, d2, d3, d4, d5, d6⟩ := cells7 (HFB.out w (HB36.out w hSw)); have h11 := HFC.out w hSw; have x0 : w.cell? ⟨b11, 0, none⟩ = some (.int .i64 3) := cell_of_block h11 0; have x1 : w.cell? ⟨b11, 1, none⟩ = some (.int .i64 Y) := cell_of_block h11 1; obtain ⟨e0, e1⟩ := HEC.out w (HB36.out w hSw); go_simp) hp ?_
            refine zT 5 183 (.agg #[.int .i64 3, .int .i64 Y]) rfl rfl (fun w hSw => by obtain ⟨d0, d1, d2, d3, d4, d5, d6⟩ := cells7 (HFB.out w (HB36.out w hSw)); have h11 := HFC.out w hSw; have x0 : w.cell? ⟨b11, 0, none⟩ = some (.int .i64 3) := cell_of_block h11 0; have x1 : w.cell? ⟨b11, 1, none⟩ = some (.int .i64 Y) := cell_of_block h11 1; obtain ⟨e0, e1⟩ := HEC.out w (HB36.out w hSw); go_simp) hp ?_
            refine zT 6 184 (.bool (eqI x y 3 Y)) rfl rfl (fun w hSw => by go_simp; exact ite2 x y 3 Y w) hp ?_
            refine zd ?_ _
            have hqD : Below w3.heap.size w3 wD := HB36.out wD hp
            by_cases he : (x, y) = ((3 : Int), Y)
            ·have hed : eqI x y 3 Y = true := decide_eq_true he
             rw [hed]
             have hne : eqP F A I E k = false := eqP_dup j hjl (by rw [HXY.out, HE.out]; exact he)
             clear hed he
             have HX : Hid (rb = false) := by rw [HRB.out]; exact rgt_no F A I n T g G l ni nt In Tb m E (Or.inr (Or.inr (Or.inr (Or.inl (eq_no k hlt hne)))))
             have HBF : Hid (Below w.heap.size w wD) := HB3W.out wD (by assumption)
             go_wp2
             go_ret
             exact ⟨by rw [HX.out]; rfl, HBF.out⟩
            ·have hed : eqI x y 3 Y = false := decide_eq_false he
             rw [hed]
             have HJ1 : Hid (∀ i, i < j + 1 -> E i ≠ E k) := fun i hi => by
              rcases Nat.lt_or_ge i j with h | h
              ·exact HJ.out i h
              ·rw [show i = j by omega, HXY.out, HE.out]; exact he
             have HBN : Hid (Below w6.heap.size w6 wD) := hp
             clear hed he hp hqD
             go_wp2
             go_roundw
             case measure => simp [intOf]; omega
             case rel => exact ⟨j + 1, by go_num, hjl, HBN.out, HJ1⟩
           ·have hji : ¬ (j : Int) < (k : Int) := by omega
            have HA : Hid (∀ i, i < k + 1 -> eqP F A I E i = true) := fun i hi => by
             rcases Nat.lt_or_ge i k with h | h
             ·exact HALL.out i h
             ·rw [show i = k by omega]; exact HOKE.out (fun i hi => HJ.out i (by omega))
            have HBN : Hid (Below w3.heap.size w3 wr) := HB36.out wr hbq
            clear hbq
            go_wp2
            go_roundw
            case measure => simp [intOf]; omega
            case rel => exact ⟨k + 1, by go_num, hlt, HBN.out, HA⟩
         ·by_cases y0 : Y < 0
          ·refine wp_region_Z (fun w' => Below w6.heap.size w6 w') 23 (by kernel_rfl) ?_
           obtain ⟨wD, hD⟩ := lv (w6.drew)
           rw [<- hD]
           have hp : Below w6.heap.size w6 wD := by rw [hD]; exact (Below.refl _ _).drew
           clear hD
           refine zs 0 150 (.pointer (some ⟨b11, 0, none⟩)) hp ?_
           refine zT 1 151 (.int .i64 4) rfl rfl (fun w hSw => by have h11 := HFC.out w hSw; have x0 : w.cell? ⟨b11, 0, none⟩ = some (.int .i64 4) := cell_of_block h11 0; have x1 : w.cell? ⟨b11, 1, none⟩ = some (.int .i64 Y) := cell_of_block h11 1; obtain ⟨m0, m1, m2⟩ := cells3 (HF4.out w (HB36.out w hSw)); go_simp) hp ?_
           refine zs 2 152 (.bool false) hp ?_
           refine zs 3 153 (.bool false) hp ?_
           refine zs 4 154 (.pointer (some ⟨b11, 0, none⟩)) hp ?_
           refine zT 5 155 (.int .i64 4) rfl rfl (fun w hSw => by have h11 := HFC.out w hSw; have x0 : w.cell? ⟨b11, 0, none⟩ = some (.int .i64 4) := cell_of_block h11 0; have x1 : w.cell? ⟨b11, 1, none⟩ = some (.int .i64 Y) := cell_of_block h11 1; obtain ⟨m0, m1, m2⟩ := cells3 (HF4.out w (HB36.out w hSw)); go_simp) hp ?_
           refine zs 6 156 (.bool false) hp ?_
           refine zs 7 157 (.bool false) hp ?_
           refine zs 8 158 (.bool false) hp ?_
           refine zs 9 159 (.pointer (some ⟨b11, 1, none⟩)) hp ?_
           refine zT 10 160 (.int .i64 Y) rfl rfl (fun w hSw => by have h11 := HFC.out w hSw; have x0 : w.cell? ⟨b11, 0, none⟩ = some (.int .i64 4) := cell_of_block h11 0; have x1 : w.cell? ⟨b11, 1, none⟩ = some (.int .i64 Y) := cell_of_block h11 1; obtain ⟨m0, m1, m2⟩ := cells3 (HF4.out w (HB36.out w hSw)); go_simp) hp ?_
           refine zs 11 161 (.bool true) hp ?_
           refine zs 12 162 (.bool true) hp ?_
           refine zs 13 163 (.bool true) hp ?_
           refine zU 14 164 hp ?_
           refine zU 15 165 hp ?_
           refine zU 16 166 hp ?_
           refine zU 17 167 hp ?_
           refine zU 18 168 hp ?_
           refine zU 19 169 hp ?_
           refine zU 20 170 hp ?_
           refine zU 21 171 hp ?_
           refine zs 22 172 (.bool true) hp ?_
           refine zd ?_ _
           have hqD : Below w3.heap.size w3 wD := HB36.out wD hp
           clear hp
           have HX : Hid (rb = false) := by rw [HRB.out]; exact rgt_no F A I n T g G l ni nt In Tb m E (Or.inr (Or.inr (Or.inr (Or.inl (eq_no k hlt (eqP_col (by rw [HE.out]; show Y < 0 \/ I <= Y; omega)))))))
           have HBF : Hid (Below w.heap.size w wD) := HB3W.out wD (by assumption)
           go_wp2
           go_ret
           exact ⟨by rw [HX.out]; rfl, HBF.out⟩
          have y0' : 0 <= Y := by omega
          by_cases y1 : I <= Y
          ·refine wp_region_Z (fun w' => Below w6.heap.size w6 w') 23 (by kernel_rfl) ?_
           obtain ⟨wD, hD⟩ := lv (w6.drew)
           rw [<- hD]
           have hp : Below w6.heap.size w6 wD := by rw [hD]; exact (Below.refl _ _).drew
           clear hD
           refine zs 0 150 (.pointer (some ⟨b11, 0, none⟩)) hp ?_
           refine zT 1 151 (.int .i64 4) rfl rfl (fun w hSw => by have h11 := HFC.out w hSw; have x0 : w.cell? ⟨b11, 0, none⟩ = some (.int .i64 4) := cell_of_block h11 0; have x1 : w.cell? ⟨b11, 1, none⟩ = some (.int .i64 Y) := cell_of_block h11 1; obtain ⟨m0, m1, m2⟩ := cells3 (HF4.out w (HB36.out w hSw)); go_simp) hp ?_
           refine zs 2 152 (.bool false) hp ?_
           refine zs 3 153 (.bool false) hp ?_
           refine zs 4 154 (.pointer (some ⟨b11, 0, none⟩)) hp ?_
           refine zT 5 155 (.int .i64 4) rfl rfl (fun w hSw => by have h11 := HFC.out w hSw; have x0 : w.cell? ⟨b11, 0, none⟩ = some (.int .i64 4) := cell_of_block h11 0; have x1 : w.cell? ⟨b11, 1, none⟩ = some (.int .i64 Y) := cell_of_block h11 1; obtain ⟨m0, m1, m2⟩ := cells3 (HF4.out w (HB36.out w hSw)); go_simp) hp ?_
           refine zs 6 156 (.bool false) hp ?_
           refine zs 7 157 (.bool false) hp ?_
           refine zs 8 158 (.bool false) hp ?_
           refine zs 9 159 (.pointer (some ⟨b11, 1, none⟩)) hp ?_
           refine zT 10 160 (.int .i64 Y) rfl rfl (fun w hSw => by have h11 := HFC.out w hSw; have x0 : w.cell? ⟨b11, 0, none⟩ = some (.int .i64 4) := cell_of_block h11 0; have x1 : w.cell? ⟨b11, 1, none⟩ = some (.int .i64 Y) := cell_of_block h11 1; obtain ⟨m0, m1, m2⟩ := cells3 (HF4.out w (HB36.out w hSw)); go_simp) hp ?_
           refine zs 11 161 (.bool false) hp ?_
           refine zs 12 162 (.bool false) hp ?_
           refine zs 13 163 (.bool false) hp ?_
           refine zs 14 164 (.pointer (some ⟨b11, 1, none⟩)) hp ?_
           refine zT 15 165 (.int .i64 Y) rfl rfl (fun w hSw => by have h11 := HFC.out w hSw; have x0 : w.cell? ⟨b11, 0, none⟩ = some (.int .i64 4) := cell_of_block h11 0; have x1 : w.cell? ⟨b11, 1, none⟩ = some (.int .i64 Y) := cell_of_block h11 1; obtain ⟨m0, m1, m2⟩ := cells3 (HF4.out w (HB36.out w hSw)); go_simp) hp ?_
           refine zs 16 166 (.pointer (some ⟨b11, 0, none⟩)) hp ?_
           refine zT 17 167 (.int .i64 4) rfl rfl (fun w hSw => by have h11 := HFC.out w hSw; have x0 : w.cell? ⟨b11, 0, none⟩ = some (.int .i64 4) := cell_of_block h11 0; have x1 : w.cell? ⟨b11, 1, none⟩ = some (.int .i64 Y) := cell_of_block h11 1; obtain ⟨m0, m1, m2⟩ := cells3 (HF4.out w (HB36.out w hSw)); go_simp) hp ?_
           refine zT 18 168 (.int .i64 2) rfl rfl (fun w hSw => by go_simp; rfl) hp ?_
           refine zs 19 169 (.pointer (some ⟨b4, 2, none⟩)) hp ?_
           refine zT 20 170 (.int .i64 I) rfl rfl (fun w hSw => by have h11 := HFC.out w hSw; have x0 : w.cell? ⟨b11, 0, none⟩ = some (.int .i64 4) := cell_of_block h11 0; have x1 : w.cell? ⟨b11, 1, none⟩ = some (.int .i64 Y) := cell_of_block h11 1; obtain ⟨m0, m1, m2⟩ := cells3 (HF4.out w (HB36.out w hSw)); go_simp) hp ?_
           refine zs 21 171 (.bool true) hp ?_
           refine zs 22 172 (.bool true) hp ?_
           refine zd ?_ _
           have hqD : Below w3.heap.size w3 wD := HB36.out wD hp
           clear hp
           have HX : Hid (rb = false) := by rw [HRB.out]; exact rgt_no F A I n T g G l ni nt In Tb m E (Or.inr (Or.inr (Or.inr (Or.inl (eq_no k hlt (eqP_col (by rw [HE.out]; show Y < 0 \/ I <= Y; omega)))))))
           have HBF : Hid (Below w.heap.size w wD) := HB3W.out wD (by assumption)
           go_wp2
           go_ret
           exact ⟨by rw [HX.out]; rfl, HBF.out⟩
          have y1' : Y < I := by omega
          have HOKE : Hid ((∀ i, i < k -> E i ≠ E k) -> eqP F A I E k = true) := fun h => eqP_yes h (by rw [HE.out]; show 0 <= Y /\ Y < I; exact ⟨y0', y1'⟩)
          refine wp_region_Z (fun w' => Below w6.heap.size w6 w') 23 (by kernel_rfl) ?_
          obtain ⟨wD, hD⟩ := lv (w6.drew)
          rw [<- hD]
          have hp : Below w6.heap.size w6 wD := by rw [hD]; exact (Below.refl _ _).drew
          clear hD
          refine zs 0 150 (.pointer (some ⟨b11, 0, none⟩)) hp ?_
          refine zT 1 151 (.int .i64 4) rfl rfl (fun w hSw => by have h11 := HFC.out w hSw; have x0 : w.cell? ⟨b11, 0, none⟩ = some (.int .i64 4) := cell_of_block h11 0; have x1 : w.cell? ⟨b11, 1, none⟩ = some (.int .i64 Y) := cell_of_block h11 1; obtain ⟨m0, m1, m2⟩ := cells3 (HF4.out w (HB36.out w hSw)); go_simp) hp ?_
          refine zs 2 152 (.bool false) hp ?_
          refine zs 3 153 (.bool false) hp ?_
          refine zs 4 154 (.pointer (some ⟨b11, 0, none⟩)) hp ?_
          refine zT 5 155 (.int .i64 4) rfl rfl (fun w hSw => by have h11 := HFC.out w hSw; have x0 : w.cell? ⟨b11, 0, none⟩ = some (.int .i64 4) := cell_of_block h11 0; have x1 : w.cell? ⟨b11, 1, none⟩ = some (.int .i64 Y) := cell_of_block h11 1; obtain ⟨m0, m1, m2⟩ := cells3 (HF4.out w (HB36.out w hSw)); go_simp) hp ?_
          refine zs 6 156 (.bool false) hp ?_
          refine zs 7 157 (.bool false) hp ?_
          refine zs 8 158 (.bool false) hp ?_
          refine zs 9 159 (.pointer (some ⟨b11, 1, none⟩)) hp ?_
          refine zT 10 160 (.int .i64 Y) rfl rfl (fun w hSw => by have h11 := HFC.out w hSw; have x0 : w.cell? ⟨b11, 0, none⟩ = some (.int .i64 4) := cell_of_block h11 0; have x1 : w.cell? ⟨b11, 1, none⟩ = some (.int .i64 Y) := cell_of_block h11 1; obtain ⟨m0, m1, m2⟩ := cells3 (HF4.out w (HB36.out w hSw)); go_simp) hp ?_
          refine zs 11 161 (.bool false) hp ?_
          refine zs 12 162 (.bool false) hp ?_
          refine zs 13 163 (.bool false) hp ?_
          refine zs 14 164 (.pointer (some ⟨b11, 1, none⟩)) hp ?_
          refine zT 15 165 (.int .i64 Y) rfl rfl (fun w hSw => by have h11 := HFC.out w hSw; have x0 : w.cell? ⟨b11, 0, none⟩ = some (.int .i64 4) := cell_of_block h11 0; have x1 : w.cell? ⟨b11, 1, none⟩ = some (.int .i64 Y) := cell_of_block h11 1; obtain ⟨m0, m1, m2⟩ := cells3 (HF4.out w (HB36.out w hSw)); go_simp) hp ?_
          refine zs 16 166 (.pointer (some ⟨b11, 0, none⟩)) hp ?_
          refine zT 17 167 (.int .i64 4) rfl rfl (fun w hSw => by have h11 := HFC.out w hSw; have x0 : w.cell? ⟨b11, 0, none⟩ = some (.int .i64 4) := cell_of_block h11 0; have x1 : w.cell? ⟨b11, 1, none⟩ = some (.int .i64 Y) := cell_of_block h11 1; obtain ⟨m0, m1, m2⟩ := cells3 (HF4.out w (HB36.out w hSw)); go_simp) hp ?_
          refine zT 18 168 (.int .i64 2) rfl rfl (fun w hSw => by go_simp; rfl) hp ?_
          refine zs 19 169 (.pointer (some ⟨b4, 2, none⟩)) hp ?_
          refine zT 20 170 (.int .i64 I) rfl rfl (fun w hSw => by have h11 := HFC.out w hSw; have x0 : w.cell? ⟨b11, 0, none⟩ = some (.int .i64 4) := cell_of_block h11 0; have x1 : w.cell? ⟨b11, 1, none⟩ = some (.int .i64 Y) := cell_of_block h11 1; obtain ⟨m0, m1, m2⟩ := cells3 (HF4.out w (HB36.out w hSw)); go_simp) hp ?_
          refine zs 21 171 (.bool false) hp ?_
          refine zs 22 172 (.bool false) hp ?_
          refine zd ?_ _
          have HBD : Hid (Below w6.heap.size w6 wD) := hp
          clear hp
          go_wp2
          go_loopw [12] (fun iv wq => ∃ j : Nat, iv = .int .i64 (j : Int) /\ j <= k /\ Below w6.heap.size w6 wq /\ Hid (∀ i, i < j -> E i ≠ E k)) (fun iv _ => k - (intOf iv).toNat)
          case atStart => exact ⟨0, rfl, Nat.zero_le _, HBD.out, fun i hi => by omega⟩
          case round =>
           obtain ⟨j, rfl, hj, hbq, HJ⟩ := hrel
           clear HBD
           by_cases hjl : j < k
           ·have hji : (j : Int) < (k : Int) := by omega
            have hj0 : (0 : Int) <= (j : Int) := by omega
            have hjm : (j : Int) < (m : Int) := by omega
            obtain ⟨x, y, hxy⟩ : ∃ x y, E j = (x, y) := ⟨_, _, rfl⟩
            have HXY : Hid (E j = (x, y)) := hxy
            have HEC : Hid (∀ w', Below w3.heap.size w3 w' -> w'.cell? ⟨eb, eo + j * 2, none⟩ = some (.int .i64 x) /\ w'.cell? ⟨eb, eo + j * 2 + 1, none⟩ = some (.int .i64 y)) := fun w' hb => by have h := HEE.out w' hb j (by omega); rw [hxy] at h; exact h
            have HBQ : Hid (Below w6.heap.size w6 wr) := hbq
            have d6 := (cells7 (HFB.out wr (HB36.out wr hbq))).2.2.2.2.2.2
            clear hxy hbq
            go_upto_region 37 with fail
            clear d6
            refine wp_region_Z (fun w' => Below w6.heap.size w6 w') 7 (by kernel_rfl) ?_
            obtain ⟨wD, hD⟩ := lv (wr.drew)
            rw [<- hD]
            have hp : Below w6.heap.size w6 wD := by rw [hD]; exact (HBQ.out).drew
            clear hD
            refine zs 0 178 (.pointer (some ⟨b1, 6, none⟩)) hp ?_
            refine zT 1 179 (.slice (some ⟨eb, eo, none⟩) m cE) rfl rfl (fun w hSw => by obtain ⟨d0, d1, d2, d3, d4, d5, d6⟩ := cells7 (HFB.out w (HB36.out w hSw)); have h11 := HFC.out w hSw; have x0 : w.cell? ⟨b11, 0, none⟩ = some (.int .i64 4) := cell_of_block h11 0; have x1 : w.cell? ⟨b11, 1, none⟩ = some (.int .i64 Y) := cell_of_block h11 1; obtain ⟨e0, e1⟩ := HEC.out w (HB36.out w hSw); go_simp) hp ?_
            refine zs 2 180 (.int .i64 (j : Int)) hp ?_
            refine zs 3 181 (.pointer (some ⟨eb, eo + j * 2, none⟩)) hp ?_
            refine zT 4 182 (.agg #[.int .i64 x, .int .i64 y]) rfl rfl (fun w hSw => by obtain ⟨d0, d1, d2, d3, d4, d5, d6⟩ := cells7 (HFB.out w (HB36.out w hSw)); have h11 := HFC.out w hSw; have x0 : w.cell? ⟨b11, 0, none⟩ = some (.int .i64 4) := cell_of_block h11 0; have x1 : w.cell? ⟨b11, 1, none⟩ = some (.int .i64 Y) := cell_of_block h11 1; obtain ⟨e0, e1⟩ := HEC.out w (HB36.out w hSw); go_simp) hp ?_
            refine zT 5 183 (.agg #[.int .i64 4, .int .i64 Y]) rfl rfl (fun w hSw => by obtain ⟨d0, d1, d2, d3, d4, d5, d6⟩ := cells7 (HFB.out w (HB36.out w hSw)); have h11 := HFC.out w hSw; have x0 : w.cell? ⟨b11, 0, none⟩ = some (.int .i64 4) := cell_of_block h11 0; have x1 : w.cell? ⟨b11, 1, none⟩ = some (.int .i64 Y) := cell_of_block h11 1; obtain ⟨e0, e1⟩ := HEC.out w (HB36.out w hSw); go_simp) hp ?_
            refine zT 6 184 (.bool (eqI x y 4 Y)) rfl rfl (fun w hSw => by go_simp; exact ite2 x y 4 Y w) hp ?_
            refine zd ?_ _
            have hqD : Below w3.heap.size w3 wD := HB36.out wD hp
            by_cases he : (x, y) = ((4 : Int), Y)
            ·have hed : eqI x y 4 Y = true := decide_eq_true he
             rw [hed]
             have hne : eqP F A I E k = false := eqP_dup j hjl (by rw [HXY.out, HE.out]; exact he)
             clear hed he
             have HX : Hid (rb = false) := by rw [HRB.out]; exact rgt_no F A I n T g G l ni nt In Tb m E (Or.inr (Or.inr (Or.inr (Or.inl (eq_no k hlt hne)))))
             have HBF : Hid (Below w.heap.size w wD) := HB3W.out wD (by assumption)
             go_wp2
             go_ret
             exact ⟨by rw [HX.out]; rfl, HBF.out⟩
            ·have hed : eqI x y 4 Y = false := decide_eq_false he
             rw [hed]
             have HJ1 : Hid (∀ i, i < j + 1 -> E i ≠ E k) := fun i hi => by
              rcases Nat.lt_or_ge i j with h | h
              ·exact HJ.out i h
              ·rw [show i = j by omega, HXY.out, HE.out]; exact he
             have HBN : Hid (Below w6.heap.size w6 wD) := hp
             clear hed he hp hqD
             go_wp2
             go_roundw
             case measure => simp [intOf]; omega
             case rel => exact ⟨j + 1, by go_num, hjl, HBN.out, HJ1⟩
           ·have hji : ¬ (j : Int) < (k : Int) := by omega
            have HA : Hid (∀ i, i < k + 1 -> eqP F A I E i = true) := fun i hi => by
             rcases Nat.lt_or_ge i k with h | h
             ·exact HALL.out i h
             ·rw [show i = k by omega]; exact HOKE.out (fun i hi => HJ.out i (by omega))
            have HBN : Hid (Below w3.heap.size w3 wr) := HB36.out wr hbq
            clear hbq
            go_wp2
            go_roundw
            case measure => simp [intOf]; omega
            case rel => exact ⟨k + 1, by go_num, hlt, HBN.out, HA⟩
        ·have hki : ¬ (k : Int) < (m : Int) := by omega
         have HEQL : Hid (eqB F A I m E = true) := by
          show eqB F A I m E = true
          unfold eqB; rw [decide_eq_true (by omega), Bool.true_and]; exact decide_eq_true (fun i hi => HALL.out i (by omega))
         have hgt := gatB_true HGAT.out
         have HDC : Hid (Calls _ _ _ _ _) := rdegree_in F A I oN oG oL oE n cN g cG l cL m cE f ni nt In Tb T G E hn hg hl hm HOR.out hgt.2 (lks_true HLKS.out) wr (HCW.out wr hbr)
         have HBR : Hid (Below w3.heap.size w3 wr) := hbr
         obtain ⟨dg, edg⟩ := lv (dgL (dgs T n) G g l m ni nt In Tb l)
         rw [<- edg] at HDC
         have HDG : Hid (dg = dgL (dgs T n) G g l m ni nt In Tb l) := edg
         clear HALL hbr hgt edg
         go_wp2_with fail
         refine Calls.mono HDC.out ?_
         rintro e w9 ⟨rfl, hb9⟩
         have hb9' : Below w3.heap.size w3 w9 := bStep HBR.out hb9
         clear d0 d1 d2 d3 d4 d5 d6 hki hb9 HDC
         by_cases h8 : 8 < dg
         ·have hnd : ¬ dgL (dgs T n) G g l m ni nt In Tb l <= 8 := by rw [<- HDG.out]; omega
          have HX : Hid (rb = false) := by rw [HRB.out]; exact rgt_no F A I n T g G l ni nt In Tb m E (Or.inr (Or.inr (Or.inr (Or.inr hnd))))
          have HBF : Hid (Below w.heap.size w w9) := HB3W.out w9 (by assumption)
          go_wp2
          go_ret
          exact ⟨by rw [HX.out]; rfl, HBF.out⟩
         have h8' : dg <= 8 := by omega
         have HX : Hid (rb = true) := by
          rw [HRB.out]
          show rgtB n T F A I g G l ni nt In Tb m E = true
          unfold rgtB
          rw [HCOL.out, HGAT.out, HLKS.out, HEQL.out, <- HDG.out, decide_eq_true h8']; rfl
         have HBF : Hid (Below w.heap.size w w9) := HB3W.out w9 hb9'
         go_wp2
         go_ret
         exact ⟨by rw [HX.out]; rfl, HBF.out⟩
end Go.Proofs.YtgkfjpbgdhmhmaaGreatDoor
