/- Through of the seventh reference. -/
import Derived.Test.YtfahhohhpjlhnaaDoorXA
import Derived.Test.YtfahhohhpjlhnaaDoorPRF
namespace Go.Proofs.YtfahhohhpjlhnaaDoor
open Go.RowKit

def Kp (W w' : World) : Prop := Below W.heap.size W w'
theorem belowUp {w u x : World} (h : Below w.heap.size w u) (k : Below u.heap.size u x) : Below w.heap.size w x := h.trans (k.mono h.size)
theorem Cn.kept {s : Nat} {w w' : World} {v : Value} {P : Nat → Fq s} {g : Nat} (h : Cn w v P) (hg : ∀ b o m c, v = .slice (some ⟨b, o, none⟩) m c → b ≠ g) (hk : Kept g w w') : Cn w' v P := by
  rcases h with hn | ⟨b, o, c, hv, h1, h2, hb, hc⟩
  · exact Or.inl hn
  · refine Or.inr ⟨b, o, c, hv, h1, h2, Nat.lt_of_lt_of_le hb hk.size, fun i hi j hj => ?_⟩
    have e := hk.block b hb (hg b o _ c hv)
    have q := hc i hi j hj
    rw [← q]
    simp only [World.cell?, e]
/-- Times by X - x: the list is new memory. -/
theorem rT2F {s : Nat} (c cb k x : Nat) (oa ob : Option Addr) (P : Nat → Fq s) (hs : s < 4) (hk : k ≤ 100) (hP : ∀ t, k ≤ t → P t = 0) (w : World) (hv : Cn w (.slice oa (szq P) c) P) (hu : Es w (.slice ob 2 cb) 2 (duo (subP s 0 x))) :
    Calls Tryd.prog 18 #[.int .i64 (s : Int), .slice oa (szq P) c, .slice ob 2 cb] w fun e w' => (∃ v, e = .returned v ∧ Cn w' v (mX (fz s x) P) ∧ Hid (∀ b o m c, v = .slice (some ⟨b, o, none⟩) m c → w.heap.size ≤ b)) ∧ Below w.heap.size w w' := by
  have hK := szqb k (by omega) hP
  refine (rTimesF s (szq P) c 2 cb oa ob (vq P) (duo (subP s 0 x)) hs (by omega) (by decide) (fun i _ => vq_M _ _) (duo_M (subP_M _ _ _)) w hv hu).mono ?_
  rintro e w' ⟨⟨oc, c', rfl, hE, HF⟩, hb⟩
  exact ⟨⟨_, rfl, Cn.of (N := szq P + 2) (by omega) (times_mX x P hk hP) hE, fun b o m c h => by cases h; exact HF.out b o rfl⟩, hb⟩
theorem cof_above {m : Nat} [NeZero m] (X : Nat → Fin m) (i k t : Nat) (h : k + 1 ≤ t) : cof X i k t = 0 := by
  by_cases c : k ≤ i
  · rw [cof_zr X i k c]; exact zr_supp X k t (by omega)
  · exact cof_supps X (by omega) t (by omega)
/-- The product of the differences. -/
def dnN (s : Nat) (xs : Nat → Nat) (i : Nat) : Nat → Nat
  | 0 => 1
  | k + 1 => if k = i then dnN s xs i k else mulP s (dnN s xs i k) (subP s (xs i) (xs k))
theorem dnN_M (s : Nat) (xs : Nat → Nat) (i : Nat) : ∀ k, dnN s xs i k < 115792089237316195423570985008687907853269984665640564039457584007913129639936
  | 0 => by show (1 : Nat) < 115792089237316195423570985008687907853269984665640564039457584007913129639936; decide
  | k + 1 => by
    unfold dnN
    split
    · exact dnN_M s xs i k
    · exact mulP_M _ _ _
theorem dnN_pr (s : Nat) (xs : Nat → Nat) (i : Nat) : ∀ k, fz s (dnN s xs i k) = pr (fun j => if j = i then 1 else fz s (xs i) - fz s (xs j)) k
  | 0 => fz_one s
  | k + 1 => by
    show fz s (if k = i then dnN s xs i k else mulP s (dnN s xs i k) (subP s (xs i) (xs k))) = pr _ k * (if k = i then 1 else fz s (xs i) - fz s (xs k))
    by_cases h : k = i
    · rw [if_pos h, if_pos h, dnN_pr s xs i k]; grind
    · rw [if_neg h, if_neg h, fz_mul, fz_sub, dnN_pr s xs i k]
/-- The shares. -/
def shR (s : Nat) (xs ys : Nat → Nat) (n i : Nat) : Fq s := fz s (mulP s (ys i) (invU (modN s) (dnN s xs i n)))
theorem one_neR (s : Nat) : (1 : Fq s) ≠ 0 := fun h => by
  have e : fz s 1 = fz s 0 := h
  have := fz_eq.1 e
  rw [Nat.zero_mod, Nat.mod_eq_of_lt (modN_odd s).2] at this
  omega
theorem sub_zero_iff (s a b : Nat) : subP s a b = 0 ↔ fz s a = fz s b := by
  constructor
  · intro h
    have e : fz s (subP s a b) = 0 := by rw [h, fz_zero]
    rw [fz_sub] at e
    grind
  · intro h
    have e : fz s (subP s a b) = fz s 0 := by rw [fz_sub, h, fz_zero]; grind
    exact fz_inj (subP_lt _ _ _) (modN_pos s) e
set_option maxHeartbeats 16000000 in
set_option maxRecDepth 40000 in
theorem rThr_in (s n cn cm : Nat) (oa ob : Option Addr) (xs ys : Nat → Nat) (hs : s < 4) (hn : n ≤ 64) (hx : ∀ i, i < n → xs i < 115792089237316195423570985008687907853269984665640564039457584007913129639936) (hy : ∀ i, i < n → ys i < 115792089237316195423570985008687907853269984665640564039457584007913129639936) (w : World) (hv : Es w (.slice oa n cn) n xs) (hu : Es w (.slice ob n cm) n ys) :
    Calls Tryd.prog 11 #[.int .i64 (s : Int), .slice oa n cn, .slice ob n cm] w fun e w' => (((¬ ∀ a b, a < b → b < n → fz s (xs a) ≠ fz s (xs b)) ∧ e = .returned (.tuple #[.slice none 0 0, .int .i64 10])) ∨ ((∀ a b, a < b → b < n → fz s (xs a) ≠ fz s (xs b)) ∧ ∃ v, e = .returned (.tuple #[v, .int .i64 0]) ∧ Cn w' v (thr (fun i => fz s (xs i)) (shR s xs ys n) n n))) ∧ Below w.heap.size w w' := by
  have HV : Hid (Es w (.slice oa n cn) n xs) := hv
  have HU : Hid (Es w (.slice ob n cm) n ys) := hu
  have HXM : Hid (∀ i, i < n → xs i < 115792089237316195423570985008687907853269984665640564039457584007913129639936) := hx
  have HYM : Hid (∀ i, i < n → ys i < 115792089237316195423570985008687907853269984665640564039457584007913129639936) := hy
  have HS : Hid (s < 4) := hs
  have HN : Hid (n ≤ 64) := hn
  have hni : ¬ (64 : Int) < (n : Int) := by omega
  obtain ⟨X, eX⟩ : ∃ X : Nat → Fq s, X = fun i => fz s (xs i) := ⟨_, rfl⟩
  have HX : Hid (∀ i, X i = fz s (xs i)) := fun i => by rw [eX]
  rw [← eX]
  clear hv hu hx hy hs eX
  go_enter Tryd.func11, Tryd.ntmps11
  go_wp2_with fail
  refine (known_in s HS.out w).mono ?_
  rintro e w1 ⟨rfl, hw1⟩
  obtain rfl := hw1
  go_upto_region 9 with fail
  obtain ⟨N8, e8⟩ : ∃ N, N = w1.heap.size := ⟨_, rfl⟩
  obtain ⟨N9, e9⟩ : ∃ N, N = N8 + 1 := ⟨_, rfl⟩
  obtain ⟨w2, hw2⟩ : ∃ z : World, z = (w1.alloc (.cells #[] 33)).alloc (.cells #[.int .u64 0, .int .u64 0, .int .u64 0, .int .u64 0] 33) := ⟨_, rfl⟩
  have hs1 : (w1.alloc (.cells #[] 33)).heap.size = w1.heap.size + 1 := Array.size_push ..
  have b92 : Blk w2 33 N9 (fun _ => 0) := by rw [hw2]; exact Blk.newAt _ _ _ (fun _ => 0) (by rw [e9, e8, hs1])
  have hb2 : Below w1.heap.size w1 w2 := by rw [hw2]; exact bAlloc (bAlloc (Below.refl _ _) _) _
  have HC2 : Hid (Cn w2 (.slice (some ⟨N8, 0, none⟩) 0 0) (thr X (shR s xs ys n) n 0)) := by
    refine Cn.of (N := 0) (f := fun _ => 0) (by decide) (funext fun t => if_neg (by omega)) ?_
    refine Or.inr ⟨N8, 0, 0, rfl, Nat.le_refl _, by decide, ?_, fun i hi => absurd hi (Nat.not_lt_zero _)⟩
    have := b92.lt
    omega
  rw [← hw2, ← e8, ← e9]
  clear hw2 e8 e9 hs1
  go_wp2
  go_loopw [8, 10] (fun out iv wr => ∃ i : Nat, iv = .int .i64 (i : Int) ∧ i ≤ n ∧ Below w1.heap.size w1 wr ∧ Blk wr 33 N9 (fun _ => 0) ∧ Hid (Cn wr out (thr X (shR s xs ys n) n i)) ∧ Hid (∀ a, a < i → ∀ b, b < n → b ≠ a → X b ≠ X a)) (fun _ iv _ => n - (intOf iv).toNat)
  case atStart => exact ⟨0, rfl, Nat.zero_le _, hb2, b92, HC2.out, fun a ha => absurd ha (Nat.not_lt_zero _)⟩
  case round =>
    obtain ⟨i, rfl, hin, hbO, b9O, HCO, HDO⟩ := hrel
    clear hb2 b92 HC2
    by_cases hi : i < n
    · have hii : (i : Int) < (n : Int) := by omega
      have hi0 : (0 : Int) ≤ (i : Int) := by omega
      obtain ⟨ab, ao, rfl, lab, _⟩ := HV.out.cells4 hi
      obtain ⟨yb, yo, rfl, lyb, _⟩ := HU.out.cells4 hi
      have HCA : Hid (∀ k, k < n → w1.cell? ⟨ab, ao + k * 4, none⟩ = some (.int .u64 ((limb 0 (xs k) : Nat) : Int)) ∧ w1.cell? ⟨ab, ao + k * 4 + 1, none⟩ = some (.int .u64 ((limb 1 (xs k) : Nat) : Int)) ∧ w1.cell? ⟨ab, ao + k * 4 + 2, none⟩ = some (.int .u64 ((limb 2 (xs k) : Nat) : Int)) ∧ w1.cell? ⟨ab, ao + k * 4 + 3, none⟩ = some (.int .u64 ((limb 3 (xs k) : Nat) : Int))) := fun k hk => by
        obtain ⟨ab', ao', e, _, q⟩ := HV.out.cells4 hk
        cases e
        exact q
      have HCB : Hid (w1.cell? ⟨yb, yo + i * 4, none⟩ = some (.int .u64 ((limb 0 (ys i) : Nat) : Int)) ∧ w1.cell? ⟨yb, yo + i * 4 + 1, none⟩ = some (.int .u64 ((limb 1 (ys i) : Nat) : Int)) ∧ w1.cell? ⟨yb, yo + i * 4 + 2, none⟩ = some (.int .u64 ((limb 2 (ys i) : Nat) : Int)) ∧ w1.cell? ⟨yb, yo + i * 4 + 3, none⟩ = some (.int .u64 ((limb 3 (ys i) : Nat) : Int))) := by
        obtain ⟨ab', ao', e, _, q⟩ := HU.out.cells4 hi
        cases e
        exact q
      have HLAB : Hid (ab < w1.heap.size ∧ yb < w1.heap.size) := ⟨lab, lyb⟩
      obtain ⟨x, ex⟩ : ∃ x, x = xs i := ⟨_, rfl⟩
      have HEX : Hid (x = xs i) := ex
      have HEI : Hid (X i = fz s x) := by rw [ex]; exact HX.out i
      have HXI : Hid (x < 115792089237316195423570985008687907853269984665640564039457584007913129639936) := by rw [ex]; exact HXM.out i hi
      obtain ⟨o8, c8, e8⟩ := Es.shape HCO.out
      rw [e8] at HCO ⊢
      clear e8 lab lyb ex
      obtain ⟨K8, eK8⟩ : ∃ K, K = szq (thr X (shR s xs ys n) n i) := ⟨_, rfl⟩
      have HK8 : Hid (K8 = szq (thr X (shR s xs ys n) n i)) := eK8
      rw [← eK8] at HCO ⊢
      clear eK8
      go_upto_region 14 with fail
      obtain ⟨N11, e11⟩ : ∃ N, N = wr.heap.size := ⟨_, rfl⟩
      obtain ⟨wO, hwO⟩ : ∃ z : World, z = wr.alloc (.cells #[.int .u64 1, .int .u64 0, .int .u64 0, .int .u64 0] 33) := ⟨_, rfl⟩
      obtain ⟨wI, hwI⟩ : ∃ z : World, z = wO.alloc (.cells #[.int .u64 1, .int .u64 0, .int .u64 0, .int .u64 0] 33) := ⟨_, rfl⟩
      have hsO : wO.heap.size = wr.heap.size + 1 := by rw [hwO]; exact Array.size_push ..
      obtain ⟨N12, e12⟩ : ∃ N, N = N11 + 1 := ⟨_, rfl⟩
      have hE12 : N12 = wO.heap.size := by omega
      have HC1 : Hid (Cn wO (.slice (some ⟨N11, 0, none⟩) 1 1) (cof X i 0)) := zr0_Cn X (by rw [hwO]; exact uno_Es wr N11 e11)
      have b12I : Blk wI 33 N12 (fun l => limb l (dnN s xs i 0)) := by
        show Blk wI 33 N12 (fun l => limb l 1)
        have h := Blk.newAt wO 33 N12 (fun l => limb l 1) hE12
        rw [hwI]
        simpa [one_limbsP] using h
      have hbe : Below wr.heap.size wr wO := by rw [hwO]; exact bAlloc (Below.refl _ _) _
      have hbI : Below wO.heap.size wO wI := by rw [hwI]; exact bAlloc (Below.refl _ _) _
      have hbw0 := bStep hbO hbe
      have b9w := b9O.belowAll hbe
      have HC8 : Hid (Cn wO (.slice o8 K8 c8) (thr X (shR s xs ys n) n i)) := HCO.out.below hbe
      have l12 : wO.heap.size ≤ N12 := by omega
      have labO : ab < wO.heap.size := Nat.lt_of_lt_of_le HLAB.out.1 hbw0.size
      have n11 : N11 ≠ N12 := by omega
      rw [← hwO, ← hwI, ← e11, ← e12]
      clear hwO hwI e11 e12 hsO hE12 hbe hbO b9O HCO
      go_wp2
      go_loopw [11, 13] (fun one jv wr => ∃ j : Nat, jv = .int .i64 (j : Int) ∧ j ≤ n ∧ Below wO.heap.size wO wr ∧ Blk wr 33 N12 (fun l => limb l (dnN s xs i j)) ∧ Hid (Cn wr one (cof X i j)) ∧ Hid (∀ b o m c, one = .slice (some ⟨b, o, none⟩) m c → b ≠ N12) ∧ Hid (∀ b, b < j → b ≠ i → X b ≠ X i)) (fun _ jv _ => n - (intOf jv).toNat)
      case atStart => exact ⟨0, rfl, Nat.zero_le _, hbI, b12I, HC1.out.below hbI, fun b o m c h => by cases h; exact n11, fun b hb => absurd hb (Nat.not_lt_zero _)⟩
      case round =>
        obtain ⟨j, rfl, hjn, hbr, b12, HC, HNE, HDJ0⟩ := hrel
        clear hbI b12I HC1
        by_cases hj : j < n
        · have hji : (j : Int) < (n : Int) := by omega
          have hj0 : (0 : Int) ≤ (j : Int) := by omega
          by_cases hij : (j : Int) = (i : Int)
          · have HIJ : Hid (j = i) := by show j = i; omega
            have b12' : Blk wr 33 N12 (fun l => limb l (dnN s xs i (j + 1))) := by
              rw [show dnN s xs i (j + 1) = dnN s xs i j from if_pos HIJ.out]; exact b12
            have HC' : Hid (Cn wr u11 (cof X i (j + 1))) := by
              rw [show cof X i (j + 1) = cof X i j from if_pos HIJ.out]; exact HC.out
            have HD' : Hid (∀ b, b < j + 1 → b ≠ i → X b ≠ X i) := fun b hb hne => HDJ0.out b (by have := HIJ.out; omega) hne
            clear HC b12 HDJ0
            go_wp2
            go_roundw
            case measure => simp [intOf]; omega
            case rel => exact ⟨j + 1, by go_num, by omega, hbr, b12', HC'.out, HNE.out, HD'.out⟩
          · have HIJ : Hid (j ≠ i) := by show j ≠ i; omega
            obtain ⟨z, ez⟩ : ∃ z, z = xs j := ⟨_, rfl⟩
            have HEZ : Hid (X j = fz s z) := by rw [ez]; exact HX.out j
            have HZM : Hid (z < 115792089237316195423570985008687907853269984665640564039457584007913129639936) := by rw [ez]; exact HXM.out j hj
            obtain ⟨z0', z1', z2', z3'⟩ := HCA.out j hj
            rw [← ez] at z0' z1' z2' z3'
            have z0 := (hbw0.cell (p := ⟨ab, ao + j * 4, none⟩) HLAB.out.1).trans z0'
            have z1 := (hbw0.cell (p := ⟨ab, ao + j * 4 + 1, none⟩) HLAB.out.1).trans z1'
            have z2 := (hbw0.cell (p := ⟨ab, ao + j * 4 + 2, none⟩) HLAB.out.1).trans z2'
            have z3 := (hbw0.cell (p := ⟨ab, ao + j * 4 + 3, none⟩) HLAB.out.1).trans z3'
            have HCJ : Hid (∀ w', Below wr.heap.size wr w' → w'.cell? ⟨ab, ao + j * 4, none⟩ = some (.int .u64 ((limb 0 z : Nat) : Int)) ∧ w'.cell? ⟨ab, ao + j * 4 + 1, none⟩ = some (.int .u64 ((limb 1 z : Nat) : Int)) ∧ w'.cell? ⟨ab, ao + j * 4 + 2, none⟩ = some (.int .u64 ((limb 2 z : Nat) : Int)) ∧ w'.cell? ⟨ab, ao + j * 4 + 3, none⟩ = some (.int .u64 ((limb 3 z : Nat) : Int))) := fun w' hb => by
              have hw := hbr.trans (hb.mono hbr.size)
              exact ⟨(hw.cell (p := ⟨ab, ao + j * 4, none⟩) labO).trans z0, (hw.cell (p := ⟨ab, ao + j * 4 + 1, none⟩) labO).trans z1, (hw.cell (p := ⟨ab, ao + j * 4 + 2, none⟩) labO).trans z2, (hw.cell (p := ⟨ab, ao + j * 4 + 3, none⟩) labO).trans z3⟩
            obtain ⟨x0, x1, x2, x3⟩ := HCA.out i hi
            rw [← HEX.out] at x0 x1 x2 x3
            have HCI : Hid (∀ w', Below wr.heap.size wr w' → w'.cell? ⟨ab, ao + i * 4, none⟩ = some (.int .u64 ((limb 0 x : Nat) : Int)) ∧ w'.cell? ⟨ab, ao + i * 4 + 1, none⟩ = some (.int .u64 ((limb 1 x : Nat) : Int)) ∧ w'.cell? ⟨ab, ao + i * 4 + 2, none⟩ = some (.int .u64 ((limb 2 x : Nat) : Int)) ∧ w'.cell? ⟨ab, ao + i * 4 + 3, none⟩ = some (.int .u64 ((limb 3 x : Nat) : Int))) := fun w' hb => by
              have hw := belowUp hbw0 (hbr.trans (hb.mono hbr.size))
              exact ⟨(hw.cell (p := ⟨ab, ao + i * 4, none⟩) HLAB.out.1).trans x0, (hw.cell (p := ⟨ab, ao + i * 4 + 1, none⟩) HLAB.out.1).trans x1, (hw.cell (p := ⟨ab, ao + i * 4 + 2, none⟩) HLAB.out.1).trans x2, (hw.cell (p := ⟨ab, ao + i * 4 + 3, none⟩) HLAB.out.1).trans x3⟩
            clear x0 x1 x2 x3 z0' z1' z2' z3'
            obtain ⟨d, ed⟩ : ∃ d, d = subP s x z := ⟨_, rfl⟩
            have HSU : Hid (∀ w, Calls Tryd.prog 25 #[.int .i64 (s : Int), .agg #[.int .u64 ((limb 0 (x) : Nat) : Int), .int .u64 ((limb 1 (x) : Nat) : Int), .int .u64 ((limb 2 (x) : Nat) : Int), .int .u64 ((limb 3 (x) : Nat) : Int)], .agg #[.int .u64 ((limb 0 (z) : Nat) : Int), .int .u64 ((limb 1 (z) : Nat) : Int), .int .u64 ((limb 2 (z) : Nat) : Int), .int .u64 ((limb 3 (z) : Nat) : Int)]] w fun e w' => e = .returned (.agg #[.int .u64 ((limb 0 (d) : Nat) : Int), .int .u64 ((limb 1 (d) : Nat) : Int), .int .u64 ((limb 2 (d) : Nat) : Int), .int .u64 ((limb 3 (d) : Nat) : Int)]) ∧ Below w.heap.size w w') := fun w => by rw [ed]; exact ref2Sub_any s x z HS.out HXI.out HZM.out w
            have HDM : Hid (d < 115792089237316195423570985008687907853269984665640564039457584007913129639936) := by rw [ed]; exact subP_M _ _ _
            have HEQ : Hid (d = 0 → ¬ ∀ a b, a < b → b < n → fz s (xs a) ≠ fz s (xs b)) := fun h0 hall => by
              rw [ed] at h0
              have h1 := (sub_zero_iff s x z).1 h0
              rw [HEX.out, ez] at h1
              have hne := HIJ.out
              rcases Nat.lt_or_gt_of_ne hne with c | c
              · exact hall j i c hi h1.symm
              · exact hall i j c hj h1
            have HNX : Hid (d ≠ 0 → ∀ b, b < j + 1 → b ≠ i → X b ≠ X i) := fun h0 b hb hne => by
              by_cases c : b < j
              · exact HDJ0.out b c hne
              · obtain rfl : b = j := by omega
                intro e
                rw [HEZ.out, HEI.out] at e
                exact h0 (by rw [ed]; exact (sub_zero_iff s x z).2 e.symm)
            obtain ⟨dn, edn⟩ : ∃ d, d = dnN s xs i j := ⟨_, rfl⟩
            have HDN : Hid (dn < 115792089237316195423570985008687907853269984665640564039457584007913129639936) := by rw [edn]; exact dnN_M _ _ _ _
            have HDJ : Hid (mulP s dn d = dnN s xs i (j + 1)) := by
              show _ = (if j = i then _ else mulP s (dnN s xs i j) (subP s (xs i) (xs j)))
              rw [if_neg HIJ.out, edn, ed, HEX.out, ez]
            rw [← edn] at b12
            have HCJ2 : Hid (cof X i (j + 1) = mX (X j) (cof X i j)) := if_neg HIJ.out
            obtain ⟨o11, c11, e11⟩ := Es.shape HC.out
            rw [e11] at HC ⊢
            clear e11
            obtain ⟨K11, eK11⟩ : ∃ K, K = szq (cof X i j) := ⟨_, rfl⟩
            have HK11 : Hid (K11 = szq (cof X i j)) := eK11
            rw [← eK11] at HC ⊢
            have b9 := b9w.belowAll hbr
            clear eK11 edn ed ez HDJ0 HNE
            go_wp2_with fail
            have HS0 : Hid (Below wr.heap.size wr wr.drew) := (Below.refl _ _).drew
            refine wp_region_Z (fun w' => Kp wr w') 99 (by kernel_rfl) ?_
            refine wpZ_take (i := 0) (v := .int .i64 (s : Int)) 46 rfl rfl (by kernel_rfl) (by kernel_rfl) (by kernel_rfl) (Or.inr (by decide)) (fun _ _ _ h => h) (Or.inl ⟨by rfl, fun w hSw => by go_simp⟩) (HS0.out) ?_
            simp only [Act.put, List.setIfInBounds_toArray]
            dsimp only [List.set_cons_zero, List.set_cons_succ]
            refine wpZ_take (i := 1) (v := .slice (some ⟨ab, ao, none⟩) n cn) 47 rfl rfl (by kernel_rfl) (by kernel_rfl) (by kernel_rfl) (Or.inr (by decide)) (fun _ _ _ h => h) (Or.inl ⟨by rfl, fun w hSw => by go_simp⟩) (HS0.out) ?_
            simp only [Act.put, List.setIfInBounds_toArray]
            dsimp only [List.set_cons_zero, List.set_cons_succ]
            refine wpZ_take (i := 2) (v := .int .i64 (i : Int)) 48 rfl rfl (by kernel_rfl) (by kernel_rfl) (by kernel_rfl) (Or.inr (by decide)) (fun _ _ _ h => h) (Or.inl ⟨by rfl, fun w hSw => by go_simp⟩) (HS0.out) ?_
            simp only [Act.put, List.setIfInBounds_toArray]
            dsimp only [List.set_cons_zero, List.set_cons_succ]
            refine wpZ_take (i := 3) (v := .pointer (some ⟨ab, (ao + i * 4), none⟩)) 49 rfl rfl (by kernel_rfl) (by kernel_rfl) (by kernel_rfl) (Or.inr (by decide)) (fun _ _ _ h => h) (Or.inl ⟨by rfl, fun w hSw => by go_simp⟩) (HS0.out) ?_
            simp only [Act.put, List.setIfInBounds_toArray]
            dsimp only [List.set_cons_zero, List.set_cons_succ]
            refine wpZ_take (i := 4) (v := .agg #[.int .u64 ((limb 0 (x) : Nat) : Int), .int .u64 ((limb 1 (x) : Nat) : Int), .int .u64 ((limb 2 (x) : Nat) : Int), .int .u64 ((limb 3 (x) : Nat) : Int)]) 50 rfl rfl (by kernel_rfl) (by kernel_rfl) (by kernel_rfl) (Or.inr (by decide)) (fun _ _ _ h => h) (Or.inl ⟨by rfl, fun w hSw => by (obtain ⟨q0, q1, q2, q3⟩ := HCI.out w hSw; clear hSw; go_simp)⟩) (HS0.out) ?_
            simp only [Act.put, List.setIfInBounds_toArray]
            dsimp only [List.set_cons_zero, List.set_cons_succ]
            refine wpZ_take (i := 5) (v := .slice (some ⟨ab, ao, none⟩) n cn) 51 rfl rfl (by kernel_rfl) (by kernel_rfl) (by kernel_rfl) (Or.inr (by decide)) (fun _ _ _ h => h) (Or.inl ⟨by rfl, fun w hSw => by go_simp⟩) (HS0.out) ?_
            simp only [Act.put, List.setIfInBounds_toArray]
            dsimp only [List.set_cons_zero, List.set_cons_succ]
            refine wpZ_take (i := 6) (v := .int .i64 (j : Int)) 52 rfl rfl (by kernel_rfl) (by kernel_rfl) (by kernel_rfl) (Or.inr (by decide)) (fun _ _ _ h => h) (Or.inl ⟨by rfl, fun w hSw => by go_simp⟩) (HS0.out) ?_
            simp only [Act.put, List.setIfInBounds_toArray]
            dsimp only [List.set_cons_zero, List.set_cons_succ]
            refine wpZ_take (i := 7) (v := .pointer (some ⟨ab, (ao + j * 4), none⟩)) 53 rfl rfl (by kernel_rfl) (by kernel_rfl) (by kernel_rfl) (Or.inr (by decide)) (fun _ _ _ h => h) (Or.inl ⟨by rfl, fun w hSw => by go_simp⟩) (HS0.out) ?_
            simp only [Act.put, List.setIfInBounds_toArray]
            dsimp only [List.set_cons_zero, List.set_cons_succ]
            refine wpZ_take (i := 8) (v := .agg #[.int .u64 ((limb 0 (z) : Nat) : Int), .int .u64 ((limb 1 (z) : Nat) : Int), .int .u64 ((limb 2 (z) : Nat) : Int), .int .u64 ((limb 3 (z) : Nat) : Int)]) 54 rfl rfl (by kernel_rfl) (by kernel_rfl) (by kernel_rfl) (Or.inr (by decide)) (fun _ _ _ h => h) (Or.inl ⟨by rfl, fun w hSw => by (obtain ⟨q0, q1, q2, q3⟩ := HCJ.out w hSw; clear hSw; go_simp)⟩) (HS0.out) ?_
            simp only [Act.put, List.setIfInBounds_toArray]
            dsimp only [List.set_cons_zero, List.set_cons_succ]
            refine wpZ_two (i := 9) (j := 10) (by kernel_rfl) rfl rfl (fun K hK => ?_) (fun K hK => ?_) 
            · go_simp
              refine (HSU.out wr.drew).mono ?_
              rintro e wK1 ⟨rfl, hbK1⟩
              have hSK1 : Below wr.heap.size wr wK1 := bStep (HS0.out) hbK1
              go_wp2_with fail
              refine hK.out _ _ (fun _ => hSK1) ?_
              clear hK K
              refine wpZ_one (i := 10) (by kernel_rfl) rfl (fun K hK => ?_)
              go_simp
              have hSK2' : Below wr.heap.size wr (wK1.alloc (.cells #[.int .u64 0, .int .u64 0, .int .u64 0, .int .u64 0] 33)) := bAlloc (hSK1) _
              refine hK.out _ _ (fun _ => hSK2') ?_
              clear hK K
              obtain ⟨N14_2, hN14_2⟩ : ∃ N, N = wK1.heap.size := ⟨_, rfl⟩
              obtain ⟨wK2, hwK2⟩ : ∃ x : World, x = wK1.alloc (.cells #[.int .u64 0, .int .u64 0, .int .u64 0, .int .u64 0] 33) := ⟨_, rfl⟩
              have hSK2 : Below wr.heap.size wr wK2 := by rw [hwK2]; exact hSK2'
              have b14_2 : Blk wK2 33 N14_2 (fun _ => 0) := by rw [hwK2, hN14_2]; exact Blk.new wK1 33 (fun _ => 0)
              have lN14_2 : wr.heap.size ≤ N14_2 := by rw [hN14_2]; exact (hSK1).size
              rw [← hwK2, ← hN14_2]
              clear hwK2 hSK2' hN14_2
              refine wpZ_one (i := 11) (by kernel_rfl) rfl (fun K hK => ?_)
              have cS := b14_2.cell; have fS := b14_2.frozen
              go_simp
              refine hK.out _ _ (fun _ => bSet4 (hSK2) lN14_2 _ _ _ _) ?_
              clear hK K cS fS
              obtain ⟨wK3, hwK3⟩ : ∃ x : World, x = ((((wK2.setCell ⟨N14_2, 0, none⟩ (.int .u64 ((limb 0 d : Nat) : Int))).setCell ⟨N14_2, 1, none⟩ (.int .u64 ((limb 1 d : Nat) : Int))).setCell ⟨N14_2, 2, none⟩ (.int .u64 ((limb 2 d : Nat) : Int))).setCell ⟨N14_2, 3, none⟩ (.int .u64 ((limb 3 d : Nat) : Int))) := ⟨_, rfl⟩
              have hSK3 : Below wr.heap.size wr wK3 := by rw [hwK3]; exact bSet4 (hSK2) lN14_2 _ _ _ _
              have b14_3 : Blk wK3 33 N14_2 (fun i => limb i d) := by rw [hwK3]; exact b14_2.set4 (fun i => limb i d)
              rw [← hwK3]
              clear hwK3
              refine wpZ_done (by kernel_rfl) ?_ _
              have bd5 := b14_3
              have hbr5 := bStep hbr (hSK3)
              have b125 := b12.belowAll (hSK3)
              have b95 := b9.belowAll (hSK3)
              have HC5 : Hid (Cn wK3 (.slice o11 K11 c11) (cof X i j)) := HC.out.below (hSK3)
              have k12 := b12.lt
              obtain ⟨w5, hw5⟩ : ∃ z : World, z = wK3 := ⟨_, rfl⟩
              obtain ⟨N14, e14⟩ : ∃ z, z = N14_2 := ⟨_, rfl⟩
              rw [← hw5] at bd5 hbr5 b125 b95 HC5 ⊢
              rw [← e14] at bd5 ⊢
              clear hw5 e14
              have cd := bd5.cell; have c9 := b95.cell
              by_cases hd0 : d = 0
              · have hq : ∀ w, (binOp .eql 33 (.agg #[.int .u64 ((limb 0 (d) : Nat) : Int), .int .u64 ((limb 1 (d) : Nat) : Int), .int .u64 ((limb 2 (d) : Nat) : Int), .int .u64 ((limb 3 (d) : Nat) : Int)]) (.agg #[.int .u64 ((limb 0 (0) : Nat) : Int), .int .u64 ((limb 1 (0) : Nat) : Int), .int .u64 ((limb 2 (0) : Nat) : Int), .int .u64 ((limb 3 (0) : Nat) : Int)])).run Tryd.prog w = .ok (.bool true) w := fun w => by have h := eqlE d 0 HDM.out M_pos w; rw [decide_eq_true hd0] at h; exact h
                have HD0 : Hid (d = 0) := hd0
                clear hd0
                rw [zE] at hq
                go_wp2
                go_ret2
                exact ⟨Or.inl ⟨HEQ.out HD0.out, rfl⟩, belowUp hbw0 hbr5⟩
              · have hq : ∀ w, (binOp .eql 33 (.agg #[.int .u64 ((limb 0 (d) : Nat) : Int), .int .u64 ((limb 1 (d) : Nat) : Int), .int .u64 ((limb 2 (d) : Nat) : Int), .int .u64 ((limb 3 (d) : Nat) : Int)]) (.agg #[.int .u64 ((limb 0 (0) : Nat) : Int), .int .u64 ((limb 1 (0) : Nat) : Int), .int .u64 ((limb 2 (0) : Nat) : Int), .int .u64 ((limb 3 (0) : Nat) : Int)])).run Tryd.prog w = .ok (.bool false) w := fun w => by have h := eqlE d 0 HDM.out M_pos w; rw [decide_eq_false hd0] at h; exact h
                have HD0 : Hid (d ≠ 0) := hd0
                clear hd0
                rw [zE] at hq
                have q0 := (hbr5.cell (p := ⟨ab, ao + j * 4, none⟩) labO).trans z0
                have q1 := (hbr5.cell (p := ⟨ab, ao + j * 4 + 1, none⟩) labO).trans z1
                have q2 := (hbr5.cell (p := ⟨ab, ao + j * 4 + 2, none⟩) labO).trans z2
                have q3 := (hbr5.cell (p := ⟨ab, ao + j * 4 + 3, none⟩) labO).trans z3
                go_wp2_with fail
                refine (ref2Neg_any s z HS.out HZM.out _).mono ?_
                rintro e w6 ⟨rfl, hb6⟩
                clear q0 q1 q2 q3 hq cd c9
                have hbr6 := bStep hbr5 hb6
                have b126 := b125.belowAll hb6; have bd6 := bd5.belowAll hb6
                have HC6 : Hid (Cn w6 (.slice o11 K11 c11) (cof X i j)) := HC5.out.below hb6
                clear b125 bd5 hbr5 HC5 hb6
                obtain ⟨y, ey⟩ : ∃ y, y = subP s 0 z := ⟨_, rfl⟩
                have HEY : Hid (y = subP s 0 z) := ey
                rw [← ey]
                clear ey
                go_wp2_with fail
                have hbe : Below w6.heap.size w6 (w6.alloc (.cells #[.int .u64 ((limb 0 y : Nat) : Int), .int .u64 ((limb 1 y : Nat) : Int), .int .u64 ((limb 2 y : Nat) : Int), .int .u64 ((limb 3 y : Nat) : Int), .int .u64 1, .int .u64 0, .int .u64 0, .int .u64 0] 33)) := bAlloc (Below.refl _ _) _
                have hD := duo_Es w6 w6.heap.size y rfl
                have h2 := rT2F c11 2 (n + 1) z o11 (some ⟨w6.heap.size, 0, none⟩) (cof X i j) HS.out (by omega) (fun t ht => cof_above X i j t (by omega)) (w6.alloc (.cells #[.int .u64 ((limb 0 y : Nat) : Int), .int .u64 ((limb 1 y : Nat) : Int), .int .u64 ((limb 2 y : Nat) : Int), .int .u64 ((limb 3 y : Nat) : Int), .int .u64 1, .int .u64 0, .int .u64 0, .int .u64 0] 33)) (by rw [← HK11.out]; exact HC6.out.below hbe) (by rw [← HEY.out]; exact hD)
                rw [← HK11.out, ← HEZ.out] at h2
                refine h2.mono ?_
                rintro e w7 ⟨⟨v7, rfl, hC7, HF7⟩, hb7⟩
                have hbx := bStep hbe hb7
                have hbr7 := bStep hbr6 hbx
                have b127 := b126.belowAll hbx; have bd7 := bd6.belowAll hbx
                have kk := b126.lt
                have lx := hbe.size
                have HN7 : Hid (∀ b o m c, v7 = .slice (some ⟨b, o, none⟩) m c → b ≠ N12) := fun b o m c h => by have := HF7.out b o m c h; omega
                have HC7 : Hid (Cn w7 v7 (mX (X j) (cof X i j))) := hC7
                clear b126 bd6 hbr6 HC6 hbe hD h2 hb7 hbx hC7 HF7 kk lx
                have c12 := b127.cell; have cd := bd7.cell
                go_wp2_with fail
                refine (ref2Mul_any s dn d HS.out HDN.out HDM.out _).mono ?_
                rintro e w8 ⟨rfl, hb8⟩
                clear c12 cd
                have hbr8 := bStep hbr7 hb8
                have b128 := b127.belowAll hb8
                have HC8 : Hid (Cn w8 v7 (mX (X j) (cof X i j))) := HC7.out.below hb8
                obtain ⟨dm, edm⟩ : ∃ z, z = mulP s dn d := ⟨_, rfl⟩
                have HDE : Hid (dm = mulP s dn d) := edm
                rw [← edm]
                clear b127 bd7 hbr7 HC7 hb8 edm
                have cs := b128.cell; have fs := b128.frozen
                obtain ⟨w9, hw9, b129, hk9⟩ := b128.put4 dm
                have hbr9 := bKept hbr8 l12 hk9
                have hC9 := HC8.out.kept HN7.out hk9
                rw [HDE.out, HDJ.out] at b129
                rw [← HCJ2.out] at hC9
                go_wp2
                go_roundw
                case measure => simp [intOf]; omega
                case rel => exact ⟨j + 1, by go_num, by omega, hbr9, b129, hC9, HN7.out, HNX.out HD0.out⟩
            · go_simp
              have hSK1' : Below wr.heap.size wr ((wr.alloc (.cells #[.int .u64 0, .int .u64 0, .int .u64 0, .int .u64 0] 33)).drew) := (bAlloc (Below.refl _ _) _).drew
              refine hK.out _ _ (fun _ => hSK1') ?_
              clear hK K
              obtain ⟨N14_1, hN14_1⟩ : ∃ N, N = wr.heap.size := ⟨_, rfl⟩
              obtain ⟨wK1, hwK1⟩ : ∃ x : World, x = (wr.alloc (.cells #[.int .u64 0, .int .u64 0, .int .u64 0, .int .u64 0] 33)).drew := ⟨_, rfl⟩
              have hSK1 : Below wr.heap.size wr wK1 := by rw [hwK1]; exact hSK1'
              have b14_1 : Blk wK1 33 N14_1 (fun _ => 0) := by rw [hwK1, hN14_1]; exact (Blk.new wr 33 (fun _ => 0)).drew
              have lN14_1 : wr.heap.size ≤ N14_1 := by rw [hN14_1]; exact (HS0.out).size
              rw [← hwK1, ← hN14_1]
              clear hwK1 hSK1' hN14_1
              refine wpZ_one (i := 9) (by kernel_rfl) rfl (fun K hK => ?_)
              go_simp
              refine (HSU.out wK1).mono ?_
              rintro e wK2 ⟨rfl, hbK2⟩
              have hSK2 : Below wr.heap.size wr wK2 := bStep (hSK1) hbK2
              go_wp2_with fail
              refine hK.out _ _ (fun _ => hSK2) ?_
              clear hK K
              have b14_2 := b14_1.belowAll hbK2
              refine wpZ_one (i := 11) (by kernel_rfl) rfl (fun K hK => ?_)
              have cS := b14_2.cell; have fS := b14_2.frozen
              go_simp
              refine hK.out _ _ (fun _ => bSet4 (hSK2) lN14_1 _ _ _ _) ?_
              clear hK K cS fS
              obtain ⟨wK3, hwK3⟩ : ∃ x : World, x = ((((wK2.setCell ⟨N14_1, 0, none⟩ (.int .u64 ((limb 0 d : Nat) : Int))).setCell ⟨N14_1, 1, none⟩ (.int .u64 ((limb 1 d : Nat) : Int))).setCell ⟨N14_1, 2, none⟩ (.int .u64 ((limb 2 d : Nat) : Int))).setCell ⟨N14_1, 3, none⟩ (.int .u64 ((limb 3 d : Nat) : Int))) := ⟨_, rfl⟩
              have hSK3 : Below wr.heap.size wr wK3 := by rw [hwK3]; exact bSet4 (hSK2) lN14_1 _ _ _ _
              have b14_3 : Blk wK3 33 N14_1 (fun i => limb i d) := by rw [hwK3]; exact b14_2.set4 (fun i => limb i d)
              rw [← hwK3]
              clear hwK3
              refine wpZ_done (by kernel_rfl) ?_ _
              have bd5 := b14_3
              have hbr5 := bStep hbr (hSK3)
              have b125 := b12.belowAll (hSK3)
              have b95 := b9.belowAll (hSK3)
              have HC5 : Hid (Cn wK3 (.slice o11 K11 c11) (cof X i j)) := HC.out.below (hSK3)
              have k12 := b12.lt
              obtain ⟨w5, hw5⟩ : ∃ z : World, z = wK3 := ⟨_, rfl⟩
              obtain ⟨N14, e14⟩ : ∃ z, z = N14_1 := ⟨_, rfl⟩
              rw [← hw5] at bd5 hbr5 b125 b95 HC5 ⊢
              rw [← e14] at bd5 ⊢
              clear hw5 e14
              have cd := bd5.cell; have c9 := b95.cell
              by_cases hd0 : d = 0
              · have hq : ∀ w, (binOp .eql 33 (.agg #[.int .u64 ((limb 0 (d) : Nat) : Int), .int .u64 ((limb 1 (d) : Nat) : Int), .int .u64 ((limb 2 (d) : Nat) : Int), .int .u64 ((limb 3 (d) : Nat) : Int)]) (.agg #[.int .u64 ((limb 0 (0) : Nat) : Int), .int .u64 ((limb 1 (0) : Nat) : Int), .int .u64 ((limb 2 (0) : Nat) : Int), .int .u64 ((limb 3 (0) : Nat) : Int)])).run Tryd.prog w = .ok (.bool true) w := fun w => by have h := eqlE d 0 HDM.out M_pos w; rw [decide_eq_true hd0] at h; exact h
                have HD0 : Hid (d = 0) := hd0
                clear hd0
                rw [zE] at hq
                go_wp2
                go_ret2
                exact ⟨Or.inl ⟨HEQ.out HD0.out, rfl⟩, belowUp hbw0 hbr5⟩
              · have hq : ∀ w, (binOp .eql 33 (.agg #[.int .u64 ((limb 0 (d) : Nat) : Int), .int .u64 ((limb 1 (d) : Nat) : Int), .int .u64 ((limb 2 (d) : Nat) : Int), .int .u64 ((limb 3 (d) : Nat) : Int)]) (.agg #[.int .u64 ((limb 0 (0) : Nat) : Int), .int .u64 ((limb 1 (0) : Nat) : Int), .int .u64 ((limb 2 (0) : Nat) : Int), .int .u64 ((limb 3 (0) : Nat) : Int)])).run Tryd.prog w = .ok (.bool false) w := fun w => by have h := eqlE d 0 HDM.out M_pos w; rw [decide_eq_false hd0] at h; exact h
                have HD0 : Hid (d ≠ 0) := hd0
                clear hd0
                rw [zE] at hq
                have q0 := (hbr5.cell (p := ⟨ab, ao + j * 4, none⟩) labO).trans z0
                have q1 := (hbr5.cell (p := ⟨ab, ao + j * 4 + 1, none⟩) labO).trans z1
                have q2 := (hbr5.cell (p := ⟨ab, ao + j * 4 + 2, none⟩) labO).trans z2
                have q3 := (hbr5.cell (p := ⟨ab, ao + j * 4 + 3, none⟩) labO).trans z3
                go_wp2_with fail
                refine (ref2Neg_any s z HS.out HZM.out _).mono ?_
                rintro e w6 ⟨rfl, hb6⟩
                clear q0 q1 q2 q3 hq cd c9
                have hbr6 := bStep hbr5 hb6
                have b126 := b125.belowAll hb6; have bd6 := bd5.belowAll hb6
                have HC6 : Hid (Cn w6 (.slice o11 K11 c11) (cof X i j)) := HC5.out.below hb6
                clear b125 bd5 hbr5 HC5 hb6
                obtain ⟨y, ey⟩ : ∃ y, y = subP s 0 z := ⟨_, rfl⟩
                have HEY : Hid (y = subP s 0 z) := ey
                rw [← ey]
                clear ey
                go_wp2_with fail
                have hbe : Below w6.heap.size w6 (w6.alloc (.cells #[.int .u64 ((limb 0 y : Nat) : Int), .int .u64 ((limb 1 y : Nat) : Int), .int .u64 ((limb 2 y : Nat) : Int), .int .u64 ((limb 3 y : Nat) : Int), .int .u64 1, .int .u64 0, .int .u64 0, .int .u64 0] 33)) := bAlloc (Below.refl _ _) _
                have hD := duo_Es w6 w6.heap.size y rfl
                have h2 := rT2F c11 2 (n + 1) z o11 (some ⟨w6.heap.size, 0, none⟩) (cof X i j) HS.out (by omega) (fun t ht => cof_above X i j t (by omega)) (w6.alloc (.cells #[.int .u64 ((limb 0 y : Nat) : Int), .int .u64 ((limb 1 y : Nat) : Int), .int .u64 ((limb 2 y : Nat) : Int), .int .u64 ((limb 3 y : Nat) : Int), .int .u64 1, .int .u64 0, .int .u64 0, .int .u64 0] 33)) (by rw [← HK11.out]; exact HC6.out.below hbe) (by rw [← HEY.out]; exact hD)
                rw [← HK11.out, ← HEZ.out] at h2
                refine h2.mono ?_
                rintro e w7 ⟨⟨v7, rfl, hC7, HF7⟩, hb7⟩
                have hbx := bStep hbe hb7
                have hbr7 := bStep hbr6 hbx
                have b127 := b126.belowAll hbx; have bd7 := bd6.belowAll hbx
                have kk := b126.lt
                have lx := hbe.size
                have HN7 : Hid (∀ b o m c, v7 = .slice (some ⟨b, o, none⟩) m c → b ≠ N12) := fun b o m c h => by have := HF7.out b o m c h; omega
                have HC7 : Hid (Cn w7 v7 (mX (X j) (cof X i j))) := hC7
                clear b126 bd6 hbr6 HC6 hbe hD h2 hb7 hbx hC7 HF7 kk lx
                have c12 := b127.cell; have cd := bd7.cell
                go_wp2_with fail
                refine (ref2Mul_any s dn d HS.out HDN.out HDM.out _).mono ?_
                rintro e w8 ⟨rfl, hb8⟩
                clear c12 cd
                have hbr8 := bStep hbr7 hb8
                have b128 := b127.belowAll hb8
                have HC8 : Hid (Cn w8 v7 (mX (X j) (cof X i j))) := HC7.out.below hb8
                obtain ⟨dm, edm⟩ : ∃ z, z = mulP s dn d := ⟨_, rfl⟩
                have HDE : Hid (dm = mulP s dn d) := edm
                rw [← edm]
                clear b127 bd7 hbr7 HC7 hb8 edm
                have cs := b128.cell; have fs := b128.frozen
                obtain ⟨w9, hw9, b129, hk9⟩ := b128.put4 dm
                have hbr9 := bKept hbr8 l12 hk9
                have hC9 := HC8.out.kept HN7.out hk9
                rw [HDE.out, HDJ.out] at b129
                rw [← HCJ2.out] at hC9
                go_wp2
                go_roundw
                case measure => simp [intOf]; omega
                case rel => exact ⟨j + 1, by go_num, by omega, hbr9, b129, hC9, HN7.out, HNX.out HD0.out⟩
        · have hnj : ¬ (j : Int) < (n : Int) := by omega
          have ej : j = n := by omega
          rw [ej] at b12 HC HDJ0
          clear ej
          have hbq := belowUp hbw0 hbr
          have b9 := b9w.belowAll hbr
          have HCN : Hid (Cn wr u11 (cof X i n)) := HC.out
          have hC8 : Cn wr (.slice o8 K8 c8) (thr X (shR s xs ys n) n i) := HC8.out.below hbr
          obtain ⟨o11, c11, e11⟩ := Es.shape HCN.out
          rw [e11] at HCN ⊢
          obtain ⟨K11, eK11⟩ : ∃ K, K = szq (cof X i n) := ⟨_, rfl⟩
          have HK11 : Hid (K11 = szq (cof X i n)) := eK11
          rw [← eK11] at HCN ⊢
          have hC1 : Cn wr (.slice o11 K11 c11) (cof X i n) := HCN.out
          clear e11 eK11 HCN HC
          obtain ⟨y, ey⟩ : ∃ y, y = ys i := ⟨_, rfl⟩
          have HYI : Hid (y < 115792089237316195423570985008687907853269984665640564039457584007913129639936) := by rw [ey]; exact HYM.out i hi
          obtain ⟨y0, y1, y2, y3⟩ := HCB.out
          rw [← ey] at y0 y1 y2 y3
          have HCY : Hid (∀ w', Below wr.heap.size wr w' → w'.cell? ⟨yb, yo + i * 4, none⟩ = some (.int .u64 ((limb 0 y : Nat) : Int)) ∧ w'.cell? ⟨yb, yo + i * 4 + 1, none⟩ = some (.int .u64 ((limb 1 y : Nat) : Int)) ∧ w'.cell? ⟨yb, yo + i * 4 + 2, none⟩ = some (.int .u64 ((limb 2 y : Nat) : Int)) ∧ w'.cell? ⟨yb, yo + i * 4 + 3, none⟩ = some (.int .u64 ((limb 3 y : Nat) : Int))) := fun w' hb => by
            have hw := belowUp hbq hb
            exact ⟨(hw.cell (p := ⟨yb, yo + i * 4, none⟩) HLAB.out.2).trans y0, (hw.cell (p := ⟨yb, yo + i * 4 + 1, none⟩) HLAB.out.2).trans y1, (hw.cell (p := ⟨yb, yo + i * 4 + 2, none⟩) HLAB.out.2).trans y2, (hw.cell (p := ⟨yb, yo + i * 4 + 3, none⟩) HLAB.out.2).trans y3⟩
          obtain ⟨dn, edn⟩ : ∃ d, d = dnN s xs i n := ⟨_, rfl⟩
          have HDN : Hid (dn < 115792089237316195423570985008687907853269984665640564039457584007913129639936) := by rw [edn]; exact dnN_M _ _ _ _
          have HDZ : Hid (dn % modN s ≠ 0) := fun h => by
            have e : fz s (dnN s xs i n) = 0 := by rw [← edn]; exact fz_eq.2 (by rw [h, Nat.zero_mod])
            rw [dnN_pr] at e
            refine pr_ne (fq_zd s) (one_neR s) _ n (fun b hb => ?_) e
            by_cases c : b = i
            · rw [if_pos c]; exact one_neR s
            · rw [if_neg c]
              intro e2
              have := HDJ0.out b hb c
              rw [HX.out, HX.out] at this
              exact this (by grind)
          rw [← edn] at b12
          obtain ⟨q, eq⟩ : ∃ q, q = mulP s y (invU (modN s) dn) := ⟨_, rfl⟩
          have HBY : Hid (∀ w, Calls Tryd.prog 29 #[.int .i64 (s : Int), .agg #[.int .u64 ((limb 0 (y) : Nat) : Int), .int .u64 ((limb 1 (y) : Nat) : Int), .int .u64 ((limb 2 (y) : Nat) : Int), .int .u64 ((limb 3 (y) : Nat) : Int)], .agg #[.int .u64 ((limb 0 (dn) : Nat) : Int), .int .u64 ((limb 1 (dn) : Nat) : Int), .int .u64 ((limb 2 (dn) : Nat) : Int), .int .u64 ((limb 3 (dn) : Nat) : Int)]] w fun e w' => e = .returned (.agg #[.int .u64 ((limb 0 (q) : Nat) : Int), .int .u64 ((limb 1 (q) : Nat) : Int), .int .u64 ((limb 2 (q) : Nat) : Int), .int .u64 ((limb 3 (q) : Nat) : Int)]) ∧ Below w.heap.size w w') := fun w => by rw [eq]; exact rByP s y dn HS.out HYI.out HDN.out HDZ.out w
          have HQM : Hid (q < 115792089237316195423570985008687907853269984665640564039457584007913129639936) := by rw [eq]; exact mulP_M _ _ _
          have hcs : ∀ t, n + 1 ≤ t → cof X i n t = 0 := fun t ht => cof_above X i n t ht
          have HSC : Hid (∀ w, Cn w (.slice o11 K11 c11) (cof X i n) → Calls Tryd.prog 28 #[.int .i64 (s : Int), .slice o11 K11 c11, .agg #[.int .u64 ((limb 0 (q) : Nat) : Int), .int .u64 ((limb 1 (q) : Nat) : Int), .int .u64 ((limb 2 (q) : Nat) : Int), .int .u64 ((limb 3 (q) : Nat) : Int)]] w fun e w' => (∃ v, e = .returned v ∧ Cn w' v (fun t => fz s q * cof X i n t)) ∧ Below w.heap.size w w') := fun w h => by
            have h2 := rScP c11 q (n + 1) o11 (cof X i n) HS.out HQM.out (by have := HN.out; omega) hcs w (by rw [← HK11.out]; exact h)
            rw [← HK11.out] at h2
            exact h2
          have HAD : Hid (∀ w v, Cn w (.slice o8 K8 c8) (thr X (shR s xs ys n) n i) → Cn w v (fun t => fz s q * cof X i n t) → Calls Tryd.prog 27 #[.int .i64 (s : Int), .slice o8 K8 c8, v] w fun e w' => (∃ v, e = .returned v ∧ Cn w' v (fun t => thr X (shR s xs ys n) n i t + fz s q * cof X i n t)) ∧ Below w.heap.size w w') := fun w v h1 h2 => by
            obtain ⟨ov, cv, rfl⟩ := Es.shape h2
            have h3 := rAdP c8 cv (n + 1) o8 ov (thr X (shR s xs ys n) n i) (fun t => fz s q * cof X i n t) HS.out (by have := HN.out; omega) (fun t ht => thr_supp X _ n i (by omega) t (by omega)) (fun t ht => by rw [hcs t ht]; grind) w (by rw [← HK8.out]; exact h1) h2
            rw [← HK8.out] at h3
            exact h3
          have HTH : Hid (thr X (shR s xs ys n) n (i + 1) = fun t => thr X (shR s xs ys n) n i t + fz s q * cof X i n t) := funext fun t => by
            show thr X (shR s xs ys n) n i t + shR s xs ys n i * cof X i n t = _
            rw [eq, ey, edn]
            rfl
          have HDI : Hid (∀ a, a < i + 1 → ∀ b, b < n → b ≠ a → X b ≠ X a) := fun a ha b hb hne => by
            by_cases c : a < i
            · exact HDO.out a c b hb hne
            · obtain rfl : a = i := by omega
              exact HDJ0.out b hb hne
          clear ey edn eq hcs y0 y1 y2 y3 HDJ0 HNE HDO hbr
          go_wp2_with fail
          refine wp_region_Z (fun w' => Below wr.heap.size wr w') 99 (by kernel_rfl) ?_
          obtain ⟨wD, hD⟩ : ∃ x : World, x = wr.drew := ⟨_, rfl⟩
          rw [← hD]
          have hp0_0 : Below wr.heap.size wr wD := by rw [hD]; exact (Below.refl _ _).drew
          have hlow0 : Below wr.heap.size wr wD := by rw [hD]; exact (Below.refl _ _).drew
          clear hD
          refine wpZ_take (i := 0) (v := .int .i64 (s : Int)) 74 rfl rfl (by kernel_rfl) (by kernel_rfl) (by kernel_rfl) (Or.inr (by decide)) (fun _ _ _ h => h) (Or.inl ⟨by rfl, fun w hSw => by go_simp⟩) hp0_0 ?_
          simp only [Act.put, List.setIfInBounds_toArray]
          dsimp only [List.set_cons_zero, List.set_cons_succ]
          refine wpZ_take (i := 1) (v := .slice o8 K8 c8) 75 rfl rfl (by kernel_rfl) (by kernel_rfl) (by kernel_rfl) (Or.inr (by decide)) (fun _ _ _ h => h) (Or.inl ⟨by rfl, fun w hSw => by go_simp⟩) hp0_0 ?_
          simp only [Act.put, List.setIfInBounds_toArray]
          dsimp only [List.set_cons_zero, List.set_cons_succ]
          refine wpZ_take (i := 2) (v := .int .i64 (s : Int)) 76 rfl rfl (by kernel_rfl) (by kernel_rfl) (by kernel_rfl) (Or.inr (by decide)) (fun _ _ _ h => h) (Or.inl ⟨by rfl, fun w hSw => by go_simp⟩) hp0_0 ?_
          simp only [Act.put, List.setIfInBounds_toArray]
          dsimp only [List.set_cons_zero, List.set_cons_succ]
          refine wpZ_take (i := 3) (v := .slice o11 K11 c11) 77 rfl rfl (by kernel_rfl) (by kernel_rfl) (by kernel_rfl) (Or.inr (by decide)) (fun _ _ _ h => h) (Or.inl ⟨by rfl, fun w hSw => by go_simp⟩) hp0_0 ?_
          simp only [Act.put, List.setIfInBounds_toArray]
          dsimp only [List.set_cons_zero, List.set_cons_succ]
          refine wpZ_take (i := 4) (v := .int .i64 (s : Int)) 78 rfl rfl (by kernel_rfl) (by kernel_rfl) (by kernel_rfl) (Or.inr (by decide)) (fun _ _ _ h => h) (Or.inl ⟨by rfl, fun w hSw => by go_simp⟩) hp0_0 ?_
          simp only [Act.put, List.setIfInBounds_toArray]
          dsimp only [List.set_cons_zero, List.set_cons_succ]
          refine wpZ_take (i := 5) (v := .slice (some ⟨yb, yo, none⟩) n cm) 79 rfl rfl (by kernel_rfl) (by kernel_rfl) (by kernel_rfl) (Or.inr (by decide)) (fun _ _ _ h => h) (Or.inl ⟨by rfl, fun w hSw => by go_simp⟩) hp0_0 ?_
          simp only [Act.put, List.setIfInBounds_toArray]
          dsimp only [List.set_cons_zero, List.set_cons_succ]
          refine wpZ_take (i := 6) (v := .int .i64 (i : Int)) 80 rfl rfl (by kernel_rfl) (by kernel_rfl) (by kernel_rfl) (Or.inr (by decide)) (fun _ _ _ h => h) (Or.inl ⟨by rfl, fun w hSw => by go_simp⟩) hp0_0 ?_
          simp only [Act.put, List.setIfInBounds_toArray]
          dsimp only [List.set_cons_zero, List.set_cons_succ]
          refine wpZ_take (i := 7) (v := .pointer (some ⟨yb, (yo + i * 4), none⟩)) 81 rfl rfl (by kernel_rfl) (by kernel_rfl) (by kernel_rfl) (Or.inr (by decide)) (fun _ _ _ h => h) (Or.inl ⟨by rfl, fun w hSw => by go_simp⟩) hp0_0 ?_
          simp only [Act.put, List.setIfInBounds_toArray]
          dsimp only [List.set_cons_zero, List.set_cons_succ]
          refine wpZ_take (i := 8) (v := .agg #[.int .u64 ((limb 0 (y) : Nat) : Int), .int .u64 ((limb 1 (y) : Nat) : Int), .int .u64 ((limb 2 (y) : Nat) : Int), .int .u64 ((limb 3 (y) : Nat) : Int)]) 82 rfl rfl (by kernel_rfl) (by kernel_rfl) (by kernel_rfl) (Or.inr (by decide)) (fun _ _ _ h => h) (Or.inl ⟨by rfl, fun w hSw => by (obtain ⟨q0, q1, q2, q3⟩ := HCY.out w hSw; clear hSw; go_simp)⟩) hp0_0 ?_
          simp only [Act.put, List.setIfInBounds_toArray]
          dsimp only [List.set_cons_zero, List.set_cons_succ]
          refine wpZ_take (i := 9) (v := .agg #[.int .u64 ((limb 0 (dn) : Nat) : Int), .int .u64 ((limb 1 (dn) : Nat) : Int), .int .u64 ((limb 2 (dn) : Nat) : Int), .int .u64 ((limb 3 (dn) : Nat) : Int)]) 83 rfl rfl (by kernel_rfl) (by kernel_rfl) (by kernel_rfl) (Or.inr (by decide)) (fun _ _ _ h => h) (Or.inl ⟨by rfl, fun w hSw => by (have qq := (b12.belowAll hSw).cell; clear hSw; go_simp)⟩) hp0_0 ?_
          simp only [Act.put, List.setIfInBounds_toArray]
          dsimp only [List.set_cons_zero, List.set_cons_succ]
          refine wpZ_one (i := 10) (by kernel_rfl) rfl (fun K hK => ?_)
          go_simp
          refine (HBY.out wD).mono ?_
          rintro e wT1 ⟨rfl, hbT1⟩
          have hlowT1 := bStep hlow0 hbT1
          go_wp2_with fail
          refine hK.out _ _ (fun _ => hlowT1) ?_
          clear hK K hbT1
          refine wpZ_one (i := 11) (by kernel_rfl) rfl (fun K hK => ?_)
          go_simp
          refine (HSC.out wT1 (hC1.below hlowT1)).mono ?_
          rintro e wT2 ⟨⟨vS, rfl, hCS⟩, hbT2⟩
          have hlowT2 := bStep hlowT1 hbT2
          go_wp2_with fail
          refine hK.out _ _ (fun _ => hlowT2) ?_
          clear hK K hbT2
          refine wpZ_one (i := 12) (by kernel_rfl) rfl (fun K hK => ?_)
          go_simp
          refine (HAD.out wT2 vS (hC8.below hlowT2) hCS).mono ?_
          rintro e wT3 ⟨⟨vA, rfl, hCA⟩, hbT3⟩
          have hlowT3 := bStep hlowT2 hbT3
          go_wp2_with fail
          refine hK.out _ _ (fun _ => hlowT3) ?_
          clear hK K hbT3
          refine wpZ_take (i := 13) (v := vA) 8 rfl rfl (by kernel_rfl) (by kernel_rfl) (by kernel_rfl) (Or.inr (by decide)) (fun _ _ _ h => h) (Or.inl ⟨by rfl, fun w hSw => by go_simp⟩) hlowT3 ?_
          simp only [Act.put, List.setIfInBounds_toArray]
          dsimp only [List.set_cons_zero, List.set_cons_succ]
          refine wpZ_done (by kernel_rfl) ?_ _
          have hbr9 := bStep hbq hlowT3
          have b99 := b9.belowAll hlowT3
          clear hbq b9 b12 HBY HSC HAD hlowT1 hlowT2 hlowT3 hC1 hC8 hCS HCY
          go_wp2
          go_roundw
          case measure => simp [intOf]; omega
          case rel => exact ⟨i + 1, by go_num, by omega, hbr9, b99, by rw [HTH.out]; exact hCA, HDI.out⟩
    · have hnI : ¬ (i : Int) < (n : Int) := by omega
      have ei : i = n := by omega
      have HCN : Hid (Cn wr u8 (thr X (shR s xs ys n) n n)) := by have := HCO.out; rw [ei] at this; exact this
      have HALL : Hid (∀ a b, a < b → b < n → fz s (xs a) ≠ fz s (xs b)) := fun a b hab hb => by
        have := HDO.out a (by omega) b hb (by omega)
        rw [HX.out, HX.out] at this
        exact fun e => this e.symm
      clear ei HCO HDO b9O
      go_wp2
      go_ret2
      exact ⟨Or.inr ⟨HALL.out, u8, rfl, HCN.out⟩, hbO⟩

end Go.Proofs.YtfahhohhpjlhnaaDoor
