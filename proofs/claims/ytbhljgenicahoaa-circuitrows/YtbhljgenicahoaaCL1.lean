/- A circuit that is looked at: places, and what is done with the rots of a cone. -/
import Derived.Test.YtbhljgenicahoaaCCK
import Derived.Test.YtbhljgenicahoaaCEV
namespace Go.Proofs.Ytbhljgenicahoaa
open Go.RowKit

/-- All blocks that were there are kept, but those of S. -/
def KS (S : Nat → Prop) (w w' : World) : Prop := w'.os = w.os ∧ w'.tape = w.tape ∧ w'.output = w.output ∧ w.heap.size ≤ w'.heap.size ∧ ∀ b, b < w.heap.size → ¬ S b → w'.heap[b]? = w.heap[b]?
section
variable {S : Nat → Prop} {w w1 w' : World}
theorem KS.refl (S : Nat → Prop) (w : World) : KS S w w := ⟨rfl, rfl, rfl, Nat.le_refl _, fun _ _ _ => rfl⟩
theorem KS.trans (h : KS S w w1) (k : KS S w1 w') : KS S w w' := ⟨k.1.trans h.1, k.2.1.trans h.2.1, k.2.2.1.trans h.2.2.1, Nat.le_trans h.2.2.2.1 k.2.2.2.1, fun b hb hs => (k.2.2.2.2 b (Nat.lt_of_lt_of_le hb h.2.2.2.1) hs).trans (h.2.2.2.2 b hb hs)⟩
theorem KS.of (h : Below w.heap.size w w') : KS S w w' := ⟨h.os, h.tape, h.output, h.size, fun b hb _ => h.block b hb⟩
theorem KS.size (h : KS S w w') : w.heap.size ≤ w'.heap.size := h.2.2.2.1
theorem KS.block (h : KS S w w') {b : Nat} (hb : b < w.heap.size) (hs : ¬ S b) : w'.heap[b]? = w.heap[b]? := h.2.2.2.2 b hb hs
theorem KS.below (h : KS S w w') {m : Nat} (hm : m ≤ w.heap.size) (hs : ∀ b, S b → m ≤ b) : Below m w w' := ⟨h.1, h.2.1, h.2.2.1, h.2.2.2.1, fun b hb => h.2.2.2.2 b (by omega) (fun e => by have := hs b e; omega)⟩
theorem KS.setCell (w : World) (a : Addr) (v : Value) (ha : S a.block) : KS S w (w.setCell a v) := ⟨rfl, rfl, rfl, by simp [World.setCell], fun b _ hs => Below.heap_setCell w a v b (fun e => hs (e ▸ ha))⟩
theorem KS.cell (h : KS S w w') {b o : Nat} (hb : b < w.heap.size) (hs : ¬ S b) : w'.cell? ⟨b, o, none⟩ = w.cell? ⟨b, o, none⟩ := World.cell?_of_block (w := w) (h.block hb hs)
theorem Rs.ks {v : Value} {s n : Nat} {F : Nat → Nat → Value} (h : Rs w v s n F) (hs : ∀ b o c, v = .slice (some ⟨b, o, none⟩) n c → ¬ S b) (hk : KS S w w') : Rs w' v s n F := by
  rcases h with h | ⟨b, o, c, hv, h1, h2, h3, h4⟩
  · exact Or.inl h
  · refine Or.inr ⟨b, o, c, hv, h1, h2, Nat.lt_of_lt_of_le h3 hk.size, fun i hi j hj => ?_⟩
    rw [hk.cell h3 (hs b o c hv)]
    exact h4 i hi j hj
end
def plB (n : Nat) (p : Int) : Bool := decide (0 ≤ p ∧ p < (n : Int))
set_option maxHeartbeats 4000000 in
theorem isPlace_any (F A I : Int) (oN oG oL oE oD : Option Addr) (n cN g cG l cL m cE d cD : Nat) (p : Int) (w : World) :
    Calls Try.prog 38 #[.agg #[.int .i64 F, .int .i64 A, .int .i64 I, .slice oN n cN, .slice oG g cG, .slice oL l cL, .slice oE m cE, .slice oD d cD], .int .i64 p] w fun e w' => e = .returned (.bool (plB n p)) ∧ Below w.heap.size w w' := by
  have HB : Hid (Below w.heap.size w (w.alloc (.cells #[.int .i64 F, .int .i64 A, .int .i64 I, .slice oN n cN, .slice oG g cG, .slice oL l cL, .slice oE m cE, .slice oD d cD] 55))) := bAlloc (Below.refl _ _) _
  by_cases h0 : 0 ≤ p
  · have h0' : ¬ p < 0 := by omega
    by_cases h1 : p < (n : Int)
    · have HP : Hid (plB n p = true) := decide_eq_true ⟨h0, h1⟩
      go_enter Try.func38, Try.ntmps38
      go_wp2
      go_ret
      exact ⟨by rw [HP.out]; rfl, HB.out⟩
    · have HP : Hid (plB n p = false) := decide_eq_false (fun h => h1 h.2)
      go_enter Try.func38, Try.ntmps38
      go_wp2
      go_ret
      exact ⟨by rw [HP.out]; rfl, HB.out⟩
  · have h0' : p < 0 := by omega
    have HP : Hid (plB n p = false) := decide_eq_false (fun h => h0 h.1)
    go_enter Try.func38, Try.ntmps38
    go_wp2
    go_ret
    exact ⟨by rw [HP.out]; rfl, HB.out⟩
/-- The i-th node of the cone of root. -/
def cnT (T : Nat → Int × Int × Int × Nat) (root i : Nat) : Int × Int × Int × Nat := T (cnF T root (root + 1) i).toNat
theorem cell_of_block {w : World} {b : Nat} {c : Array Value} {t : TypeId} (h : w.heap[b]? = some (.cells c t)) (o : Nat) : w.cell? ⟨b, o, none⟩ = c[o]? := by simp [World.cell?, h]
set_option maxHeartbeats 16000000 in
set_option maxRecDepth 100000 in
theorem rots_in (F A I : Int) (oN oG oL oE oD : Option Addr) (n cN g cG l cL m cE d cD : Nat) (T : Nat → Int × Int × Int × Nat) (root : Nat) (k : FuncId) (hk : Ent k) (bd fr : Array Value) (S : Nat → Prop) (V : Nat → World → Prop) (hn : n ≤ 1000000) (ho : ordB n T = true) (hr : root < n) (w : World)
    (hS : ∀ b, S b → b < w.heap.size) (hR : ∀ w', KS S w w' → Rs w' (.slice oN n cN) 7 n (fun i => nC (T i))) (hV0 : V 0 w) (hVb : ∀ i w1 w2, Below w1.heap.size w1 w2 → V i w1 → V i w2)
    (HC : ∀ i, i < cnN T root (root + 1) → isQ (cnT T root i).1 = true → ∀ w', KS S w w' → V i w' → Calls Try.prog k ((bd ++ #[.int .i64 (cnT T root i).2.2.1]) ++ fr) w' fun e w2 => e = .returned (.tuple #[]) ∧ KS S w' w2 ∧ V (i + 1) w2)
    (HN : ∀ i, i < cnN T root (root + 1) → isQ (cnT T root i).1 = false → ∀ w', V i w' → V (i + 1) w') :
    Calls Try.prog 53 #[.agg #[.int .i64 F, .int .i64 A, .int .i64 I, .slice oN n cN, .slice oG g cG, .slice oL l cL, .slice oE m cE, .slice oD d cD], .int .i64 (root : Int), .func (.func k) bd fr] w fun e w' => e = .returned (.tuple #[]) ∧ KS S w w' ∧ V (cnN T root (root + 1)) w' := by
  obtain ⟨N, eN⟩ : ∃ N, N = cnN T root (root + 1) := ⟨_, rfl⟩
  rw [← eN] at HC HN ⊢
  have HNL : Hid (N ≤ 1000000) := by have := cnN_le T root (root + 1); show N ≤ 1000000; omega
  obtain ⟨w1, ew1⟩ : ∃ x : World, x = w.alloc (.cells #[.int .i64 F, .int .i64 A, .int .i64 I, .slice oN n cN, .slice oG g cG, .slice oL l cL, .slice oE m cE, .slice oD d cD] 55) := ⟨_, rfl⟩
  have hb01 : Below w.heap.size w w1 := by rw [ew1]; exact bAlloc (Below.refl _ _) _
  have HEN : Hid (N = cnN T root (root + 1)) := eN
  obtain ⟨B3, eB3⟩ : ∃ x, x = w.heap.size := ⟨_, rfl⟩
  have hbx : w1.heap[B3]? = some (.cells #[.int .i64 F, .int .i64 A, .int .i64 I, .slice oN n cN, .slice oG g cG, .slice oL l cL, .slice oE m cE, .slice oD d cD] 55) := by rw [ew1, eB3]; show (w.heap.push _)[w.heap.size]? = _; simp
  have HCN : Hid (Calls _ _ _ _ _) := cone_in n cN oN T root hn w1 ((hR w (KS.refl _ _)).below hb01) ho hr
  have HK1 : Hid (KS S w w1) := KS.of hb01
  have HBX : Hid (w1.heap[B3]? = some (.cells #[.int .i64 F, .int .i64 A, .int .i64 I, .slice oN n cN, .slice oG g cG, .slice oL l cL, .slice oE m cE, .slice oD d cD] 55)) := hbx
  have HSB : Hid (¬ S B3) := fun h => by have := hS B3 h; omega
  have HBL : Hid (B3 < w1.heap.size) := (Array.getElem?_eq_some_iff.1 hbx).1
  have HSS : Hid (∀ b, S b → b < w.heap.size) := hS
  have HRR : Hid (∀ w', KS S w w' → Rs w' (.slice oN n cN) 7 n (fun i => nC (T i))) := hR
  have HV1 : Hid (V 0 w1) := hVb 0 w w1 hb01 hV0
  have HVB : Hid (∀ i w1 w2, Below w1.heap.size w1 w2 → V i w1 → V i w2) := hVb
  have HCC : Hid (∀ i, i < N → isQ (cnT T root i).1 = true → ∀ w', KS S w w' → V i w' → Calls Try.prog k ((bd ++ #[.int .i64 (cnT T root i).2.2.1]) ++ fr) w' fun e w2 => e = .returned (.tuple #[]) ∧ KS S w' w2 ∧ V (i + 1) w2) := HC
  have HNN : Hid (∀ i, i < N → isQ (cnT T root i).1 = false → ∀ w', V i w' → V (i + 1) w') := HN
  have HEK : Hid (Ent k) := hk
  have HRT : Hid (root < n) := hr
  have c3 : w1.cell? ⟨B3, 3, none⟩ = some (.slice oN n cN) := cell_of_block hbx 3
  clear hR hS hV0 hVb HC HN hk hbx hb01 eN hr ho hn
  go_enter Try.func53, Try.ntmps53
  go_upto_region 1 with fail
  rw [← ew1, ← eB3]
  clear ew1
  have HEB : Hid (B3 = w.heap.size) := eB3
  clear eB3
  go_wp2_with fail
  refine Calls.mono HCN.out ?_
  rintro e w3 ⟨⟨cv, rfl, hcv⟩, hb3⟩
  have HK3 : Hid (KS S w w3) := HK1.out.trans (KS.of hb3)
  have HCV : Hid (Rs w3 cv 1 N (fun i _ => .int .i64 (cnF T root (root + 1) i))) := by
    rw [← HEN.out] at hcv; exact own_Rs hcv
  have HCS : Hid (∀ b o c, cv = .slice (some ⟨b, o, none⟩) N c → ¬ S b) := fun b o c e h => by
    have h1 := own_ge hcv (j := b) (by rw [e]; rfl)
    have h2 := HSS.out b h
    have h3 := HK1.out.size
    omega
  have HB3 : Hid (w3.heap[B3]? = some (.cells #[.int .i64 F, .int .i64 A, .int .i64 I, .slice oN n cN, .slice oG g cG, .slice oL l cL, .slice oE m cE, .slice oD d cD] 55)) := (hb3.block B3 HBL.out).trans HBX.out
  have HV3 : Hid (V 0 w3) := HVB.out 0 w1 w3 hb3 HV1.out
  have HL3 : Hid (B3 < w3.heap.size) := Nat.lt_of_lt_of_le HBL.out hb3.size
  obtain ⟨ov, cc, esh⟩ := HCV.out.shape
  subst esh
  clear HCN hcv hb3 c3 HV1 HK1 HBX
  go_wp2
  go_loopw [15] (fun iv wr => ∃ i : Nat, iv = .int .i64 (i : Int) ∧ i ≤ N ∧ KS S w3 wr ∧ Hid (V i wr)) (fun iv _ => N - (intOf iv).toNat)
  case atStart => exact ⟨0, rfl, Nat.zero_le _, KS.refl _ _, HV3⟩
  case round =>
    obtain ⟨i, rfl, hi, hks, HV⟩ := hrel
    have HNL' := HNL.out
    by_cases hlt : i < N
    · have hii : (i : Int) < (N : Int) := by omega
      have hi0 : (0 : Int) ≤ (i : Int) := by omega
      rcases HCV.out.ks HCS.out hks with ⟨_, h0⟩ | ⟨ab, ao, c', hv, _, _, _, hcell⟩
      · omega
      cases hv
      have a0 := hcell i hlt 0 (by decide)
      dsimp only at a0
      rw [Nat.add_zero, Nat.mul_one] at a0
      obtain ⟨y, ey⟩ : ∃ y : Nat, cnF T root (root + 1) i = (y : Int) := ⟨(cnF T root (root + 1) i).toNat, by have := (cnF_range T root (root + 1) i (by rw [← HEN.out]; exact hlt)).1; omega⟩
      have hyn : y < n := by have h1 := (cnF_range T root (root + 1) i (by rw [← HEN.out]; exact hlt)).2; have h2 := HRT.out; omega
      rw [ey] at a0
      have hy0 : (0 : Int) ≤ (y : Int) := by omega
      have hy1 : (y : Int) < (n : Int) := by omega
      have ET : cnT T root i = T y := by unfold cnT; rw [ey]; rfl
      have c3 : wr.cell? ⟨B3, 3, none⟩ = some (.slice oN n cN) := (hks.cell HL3.out HSB.out).trans (cell_of_block HB3.out 3)
      have hKw : KS S w wr := HK3.out.trans hks
      rcases HRR.out wr hKw with ⟨_, h0⟩ | ⟨nb, no, nc, hv, _, _, _, hnc⟩
      · omega
      cases hv
      obtain ⟨O, X, Y, Z, hE⟩ : ∃ O X Y Z, T y = (O, X, Y, Z) := ⟨_, _, _, _, rfl⟩
      rw [hE] at ET
      obtain ⟨t0, t1, t2, t3, t4, t5, t6⟩ := nC_cells O X Y Z
      have b0 := hnc y hyn 0 (by decide); have b1 := hnc y hyn 1 (by decide); have b2 := hnc y hyn 2 (by decide); have b3 := hnc y hyn 3 (by decide); have b4 := hnc y hyn 4 (by decide); have b5 := hnc y hyn 5 (by decide); have b6 := hnc y hyn 6 (by decide)
      dsimp only at b0 b1 b2 b3 b4 b5 b6
      rw [hE] at b0 b1 b2 b3 b4 b5 b6
      rw [t0] at b0; rw [t1] at b1; rw [t2] at b2; rw [t3] at b3; rw [t4] at b4; rw [t5] at b5; rw [t6] at b6
      rw [Nat.add_zero] at b0
      have HET : Hid (cnT T root i = (O, X, Y, Z)) := ET
      have hba : Below wr.heap.size wr (wr.alloc (.cells #[.int .i64 O, .int .i64 X, .int .i64 Y, .int .u64 ((limb 0 Z : Nat) : Int), .int .u64 ((limb 1 Z : Nat) : Int), .int .u64 ((limb 2 Z : Nat) : Int), .int .u64 ((limb 3 Z : Nat) : Int)] 49)) := bAlloc (Below.refl _ _) _
      have HKA : Hid (KS S w3 (wr.alloc (.cells #[.int .i64 O, .int .i64 X, .int .i64 Y, .int .u64 ((limb 0 Z : Nat) : Int), .int .u64 ((limb 1 Z : Nat) : Int), .int .u64 ((limb 2 Z : Nat) : Int), .int .u64 ((limb 3 Z : Nat) : Int)] 49))) := hks.trans (KS.of hba)
      have HVA : Hid (V i (wr.alloc (.cells #[.int .i64 O, .int .i64 X, .int .i64 Y, .int .u64 ((limb 0 Z : Nat) : Int), .int .u64 ((limb 1 Z : Nat) : Int), .int .u64 ((limb 2 Z : Nat) : Int), .int .u64 ((limb 3 Z : Nat) : Int)] 49))) := HVB.out i _ _ hba HV.out
      clear hcell hnc ey hE ET t0 t1 t2 t3 t4 t5 t6 hks hKw hba
      by_cases hq : 2 ≤ O ∧ O ≤ 4
      · have HCA := fun (w' : World) => HCC.out i hlt (by rw [HET.out]; exact decide_eq_true hq) w'
        rw [HET.out] at HCA
        have HCD : Hid (∀ w', KS S w w' → V i w' → Calls Try.prog k ((bd ++ #[.int .i64 Y]) ++ fr) w' fun e w2 => e = .returned (.tuple #[]) ∧ KS S w' w2 ∧ V (i + 1) w2) := HCA
        have hent : ∀ (w : World) (args : Array Value), (callFunc k args).run Try.prog w = .ok (.enter k args) w := HEK.out
        clear HCA
        have hc : O = 2 ∨ O = 3 ∨ O = 4 := by omega
        clear hq
        rcases hc with rfl | rfl | rfl
        all_goals
          go_wp2_with fail
          refine (HCD.out _ (HK3.out.trans HKA.out) HVA.out).mono ?_
          rintro e w5 ⟨rfl, hk5, hv5⟩
          have HV5 : Hid (V (i + 1) w5) := hv5
          have HK5 : Hid (KS S w3 w5) := HKA.out.trans hk5
          clear hk5 hv5 hent
          go_wp2
          go_roundw
          case measure => simp [intOf]; omega
          case rel => exact ⟨i + 1, by go_num, hlt, HK5.out, HV5⟩
      · have HV5 := HNN.out i hlt (by rw [HET.out]; exact decide_eq_false hq) _ HVA.out
        have HV6 : Hid (V (i + 1) (wr.alloc (.cells #[.int .i64 O, .int .i64 X, .int .i64 Y, .int .u64 ((limb 0 Z : Nat) : Int), .int .u64 ((limb 1 Z : Nat) : Int), .int .u64 ((limb 2 Z : Nat) : Int), .int .u64 ((limb 3 Z : Nat) : Int)] 49))) := HV5
        have q2 : ¬ O = 2 := by omega
        have q3 : ¬ O = 3 := by omega
        have q4 : ¬ O = 4 := by omega
        clear hq HV5
        go_wp2
        go_roundw
        case measure => simp [intOf]; omega
        case rel => exact ⟨i + 1, by go_num, hlt, HKA.out, HV6⟩
    · have hii : ¬ (i : Int) < (N : Int) := by omega
      have ei : i = N := by omega
      have HVN : Hid (V N wr) := by rw [ei] at HV; exact HV
      have HKN : Hid (KS S w wr) := HK3.out.trans hks
      clear ei HV hks
      go_wp2
      exact bodyPost_end (v := .tuple #[]) (by simp [results, Try.results53, go_sem]) rfl ⟨rfl, HKN.out, HVN.out⟩

end Go.Proofs.Ytbhljgenicahoaa
