/- A circuit that is looked at: places, and what is done with the rots of a cone. -/
import Derived.Test.YtgldibfpidmfhaaGreatDoorUEC
import Derived.Deep.RegionWith
namespace Go.Proofs.YtgldibfpidmfhaaGreatDoor
open Go.RowKit
/-- All blocks that were there are kept, but those of S. -/
def KS (S : Nat → Prop) (w w' : World) : Prop := w'.os = w.os ∧ w'.tape = w.tape ∧ w'.output = w.output ∧ w.heap.size ≤ w'.heap.size ∧ ∀ b, b < w.heap.size → ¬ S b → w'.heap[b]? = w.heap[b]?
section
variable {S : Nat → Prop} {w w1 w' : World}
theorem KS.refl (S : Nat → Prop) (w : World) : KS S w w := ⟨rfl, rfl, rfl, Nat.le_refl _, fun _ _ _ => rfl⟩
theorem KS.trans (h : KS S w w1) (k : KS S w1 w') : KS S w w' := ⟨k.1.trans h.1, k.2.1.trans h.2.1, k.2.2.1.trans h.2.2.1, Nat.le_trans h.2.2.2.1 k.2.2.2.1, fun b hb hs => (k.2.2.2.2 b (Nat.lt_of_lt_of_le hb h.2.2.2.1) hs).trans (h.2.2.2.2 b hb hs)⟩
theorem KS.of (h : Below w.heap.size w w') : KS S w w' := ⟨h.os, h.tape, h.output, h.size, fun b hb _ => h.block b hb⟩
theorem KS.size (h : KS S w w') : w.heap.size ≤ w'.heap.size := h.2.2.2.1
theorem KS.block (h : KS S w w') {b : Nat} (hb : b < w.heap.size) (hs : ¬ S b) : w'.heap[b]? = w.heap[b]? := h.2.2.2.2 b hb hs
theorem KS.below (h : KS S w w') {m : Nat} (hm : m ≤ w.heap.size) (hs : ∀ b, S b → m ≤ b) : Below m w w' := ⟨h.1, h.2.1, h.2.2.1, h.2.2.2.1, fun b hb => h.2.2.2.2 b (by omega) (fun e => by have := hs b e; omega)⟩
theorem KS.setCell (w : World) (a : Addr) (v : Value) (ha : S a.block) : KS S w (w.setCell a v) := ⟨rfl, rfl, rfl, by simp [World.setCell], fun b _ hs => Below.heap_setCell w a v b (fun e => hs (e ▸ ha))⟩
theorem KS.cell (h : KS S w w') {b o : Nat} (hb : b < w.heap.size) (hs : ¬ S b) : w'.cell? ⟨b, o, none⟩ = w.cell? ⟨b, o, none⟩ := World.cell?_of_block (w := w) (h.block hb hs)
theorem Rs.ks {v : Value} {s n : Nat} {F : Nat → Nat → Value} (h : Rs w v s n F) (hs : ∀ b o c, v = .slice (some ⟨b, o, none⟩) n c → ¬ S b) (hk : KS S w w') : Rs w' v s n F := by
  rcases h with h | ⟨b, o, c, hv, h1, h2, h3, h4⟩
  · exact Or.inl h
  · refine Or.inr ⟨b, o, c, hv, h1, h2, Nat.lt_of_lt_of_le h3 hk.size, fun i hi j hj => ?_⟩
    rw [hk.cell h3 (hs b o c hv)]
    exact h4 i hi j hj
end
def plB (n : Nat) (p : Int) : Bool := decide (0 ≤ p ∧ p < (n : Int))
set_option maxHeartbeats 4000000 in
theorem isPlace_any (F A I : Int) (oN oG oL oE oD : Option Addr) (n cN g cG l cL m cE d cD : Nat) (p : Int) (w : World) :
    Calls Tryz.prog 76 #[.agg #[.int .i64 F, .int .i64 A, .int .i64 I, .slice oN n cN, .slice oG g cG, .slice oL l cL, .slice oE m cE, .slice oD d cD], .int .i64 p] w fun e w' => e = .returned (.bool (plB n p)) ∧ Below w.heap.size w w' := by
  have HB : Hid (Below w.heap.size w (w.alloc (.cells #[.int .i64 F, .int .i64 A, .int .i64 I, .slice oN n cN, .slice oG g cG, .slice oL l cL, .slice oE m cE, .slice oD d cD] 133))) := bAlloc (Below.refl _ _) _
  by_cases h0 : 0 ≤ p
  · have h0' : ¬ p < 0 := by omega
    by_cases h1 : p < (n : Int)
    · have HP : Hid (plB n p = true) := decide_eq_true ⟨h0, h1⟩
      go_enter Tryz.func76, Tryz.ntmps76
      go_wp2
      go_ret
      exact ⟨by rw [HP.out]; rfl, HB.out⟩
    · have HP : Hid (plB n p = false) := decide_eq_false (fun h => h1 h.2)
      go_enter Tryz.func76, Tryz.ntmps76
      go_wp2
      go_ret
      exact ⟨by rw [HP.out]; rfl, HB.out⟩
  · have h0' : p < 0 := by omega
    have HP : Hid (plB n p = false) := decide_eq_false (fun h => h0 h.1)
    go_enter Tryz.func76, Tryz.ntmps76
    go_wp2
    go_ret
    exact ⟨by rw [HP.out]; rfl, HB.out⟩
/-- The i-th node of the cone of root. -/
def cnT (T : Nat → Int × Int × Int × Nat) (root i : Nat) : Int × Int × Int × Nat := T (cnF T root (root + 1) i).toNat
theorem cell_of_block {w : World} {b : Nat} {c : Array Value} {t : TypeId} (h : w.heap[b]? = some (.cells c t)) (o : Nat) : w.cell? ⟨b, o, none⟩ = c[o]? := by simp [World.cell?, h]
set_option maxHeartbeats 16000000 in
set_option maxRecDepth 100000 in
theorem rots_in (F A I : Int) (oN oG oL oE oD : Option Addr) (n cN g cG l cL m cE d cD : Nat) (T : Nat → Int × Int × Int × Nat) (root : Nat) (k : FuncId) (hk : Ent k) (bd fr : Array Value) (S : Nat → Prop) (V : Nat → World → Prop) (hn : n ≤ 1000000) (ho : ordB n T = true) (hr : root < n) (w : World)
    (hS : ∀ b, S b → b < w.heap.size) (hR : ∀ w', KS S w w' → Rs w' (.slice oN n cN) 7 n (fun i => nC (T i))) (hV0 : V 0 w) (hVb : ∀ i w1 w2, Below w1.heap.size w1 w2 → V i w1 → V i w2)
    (HC : ∀ i, i < cnN T root (root + 1) → isQ (cnT T root i).1 = true → ∀ w', KS S w w' → V i w' → Calls Tryz.prog k ((bd ++ #[.int .i64 (cnT T root i).2.2.1]) ++ fr) w' fun e w2 => e = .returned (.tuple #[]) ∧ KS S w' w2 ∧ V (i + 1) w2)
    (HN : ∀ i, i < cnN T root (root + 1) → isQ (cnT T root i).1 = false → ∀ w', V i w' → V (i + 1) w') :
    Calls Tryz.prog 106 #[.agg #[.int .i64 F, .int .i64 A, .int .i64 I, .slice oN n cN, .slice oG g cG, .slice oL l cL, .slice oE m cE, .slice oD d cD], .int .i64 (root : Int), .func (.func k) bd fr] w fun e w' => e = .returned (.tuple #[]) ∧ KS S w w' ∧ V (cnN T root (root + 1)) w' := by
  obtain ⟨N, eN⟩ : ∃ N, N = cnN T root (root + 1) := ⟨_, rfl⟩
  rw [← eN] at HC HN ⊢
  have HNL : Hid (N ≤ 1000000) := by have := cnN_le T root (root + 1); show N ≤ 1000000; omega
  obtain ⟨w1, ew1⟩ : ∃ x : World, x = w.alloc (.cells #[.int .i64 F, .int .i64 A, .int .i64 I, .slice oN n cN, .slice oG g cG, .slice oL l cL, .slice oE m cE, .slice oD d cD] 133) := ⟨_, rfl⟩
  have hb01 : Below w.heap.size w w1 := by rw [ew1]; exact bAlloc (Below.refl _ _) _
  have HEN : Hid (N = cnN T root (root + 1)) := eN
  obtain ⟨B3, eB3⟩ : ∃ x, x = w.heap.size := ⟨_, rfl⟩
  have hbx : w1.heap[B3]? = some (.cells #[.int .i64 F, .int .i64 A, .int .i64 I, .slice oN n cN, .slice oG g cG, .slice oL l cL, .slice oE m cE, .slice oD d cD] 133) := by rw [ew1, eB3]; show (w.heap.push _)[w.heap.size]? = _; simp
  have HCN : Hid (Calls _ _ _ _ _) := cone_in n cN oN T root hn w1 ((hR w (KS.refl _ _)).below hb01) ho hr
  have HK1 : Hid (KS S w w1) := KS.of hb01
  have HBX : Hid (w1.heap[B3]? = some (.cells #[.int .i64 F, .int .i64 A, .int .i64 I, .slice oN n cN, .slice oG g cG, .slice oL l cL, .slice oE m cE, .slice oD d cD] 133)) := hbx
  have HSB : Hid (¬ S B3) := fun h => by have := hS B3 h; omega
  have HBL : Hid (B3 < w1.heap.size) := (Array.getElem?_eq_some_iff.1 hbx).1
  have HSS : Hid (∀ b, S b → b < w.heap.size) := hS
  have HRR : Hid (∀ w', KS S w w' → Rs w' (.slice oN n cN) 7 n (fun i => nC (T i))) := hR
  have HV1 : Hid (V 0 w1) := hVb 0 w w1 hb01 hV0
  have HVB : Hid (∀ i w1 w2, Below w1.heap.size w1 w2 → V i w1 → V i w2) := hVb
  have HCC : Hid (∀ i, i < N → isQ (cnT T root i).1 = true → ∀ w', KS S w w' → V i w' → Calls Tryz.prog k ((bd ++ #[.int .i64 (cnT T root i).2.2.1]) ++ fr) w' fun e w2 => e = .returned (.tuple #[]) ∧ KS S w' w2 ∧ V (i + 1) w2) := HC
  have HNN : Hid (∀ i, i < N → isQ (cnT T root i).1 = false → ∀ w', V i w' → V (i + 1) w') := HN
  have HEK : Hid (Ent k) := hk
  have HRT : Hid (root < n) := hr
  have c3 : w1.cell? ⟨B3, 3, none⟩ = some (.slice oN n cN) := cell_of_block hbx 3
  clear hR hS hV0 hVb HC HN hk hbx hb01 eN hr ho hn
  go_enter Tryz.func106, Tryz.ntmps106
  go_upto_region 1 with fail
  rw [← ew1, ← eB3]
  clear ew1
  have HEB : Hid (B3 = w.heap.size) := eB3
  clear eB3
  go_wp2_with fail
  refine Calls.mono HCN.out ?_
  rintro e w3 ⟨⟨cv, rfl, hcv⟩, hb3⟩
  have HK3 : Hid (KS S w w3) := HK1.out.trans (KS.of hb3)
  have HCV : Hid (Rs w3 cv 1 N (fun i _ => .int .i64 (cnF T root (root + 1) i))) := by
    rw [← HEN.out] at hcv; exact own_Rs hcv
  have HCS : Hid (∀ b o c, cv = .slice (some ⟨b, o, none⟩) N c → ¬ S b) := fun b o c e h => by
    have h1 := own_ge hcv (j := b) (by rw [e]; rfl)
    have h2 := HSS.out b h
    have h3 := HK1.out.size
    omega
  have HB3 : Hid (w3.heap[B3]? = some (.cells #[.int .i64 F, .int .i64 A, .int .i64 I, .slice oN n cN, .slice oG g cG, .slice oL l cL, .slice oE m cE, .slice oD d cD] 133)) := (hb3.block B3 HBL.out).trans HBX.out
  have HV3 : Hid (V 0 w3) := HVB.out 0 w1 w3 hb3 HV1.out
  have HL3 : Hid (B3 < w3.heap.size) := Nat.lt_of_lt_of_le HBL.out hb3.size
  obtain ⟨ov, cc, esh⟩ := HCV.out.shape
  subst esh
  clear HCN hcv hb3 c3 HV1 HK1 HBX
  go_wp2
  go_loopw [15] (fun iv wr => ∃ i : Nat, iv = .int .i64 (i : Int) ∧ i ≤ N ∧ KS S w3 wr ∧ Hid (V i wr)) (fun iv _ => N - (intOf iv).toNat)
  case atStart => exact ⟨0, rfl, Nat.zero_le _, KS.refl _ _, HV3⟩
  case round =>
    obtain ⟨i, rfl, hi, hks, HV⟩ := hrel
    have HNL' := HNL.out
    by_cases hlt : i < N
    · have hii : (i : Int) < (N : Int) := by omega
      have hi0 : (0 : Int) ≤ (i : Int) := by omega
      rcases HCV.out.ks HCS.out hks with ⟨_, h0⟩ | ⟨ab, ao, c', hv, _, _, _, hcell⟩
      · omega
      cases hv
      have a0 := hcell i hlt 0 (by decide)
      dsimp only at a0
      rw [Nat.add_zero, Nat.mul_one] at a0
      obtain ⟨y, ey⟩ : ∃ y : Nat, cnF T root (root + 1) i = (y : Int) := ⟨(cnF T root (root + 1) i).toNat, by have := (cnF_range T root (root + 1) i (by rw [← HEN.out]; exact hlt)).1; omega⟩
      have hyn : y < n := by have h1 := (cnF_range T root (root + 1) i (by rw [← HEN.out]; exact hlt)).2; have h2 := HRT.out; omega
      rw [ey] at a0
      have hy0 : (0 : Int) ≤ (y : Int) := by omega
      have hy1 : (y : Int) < (n : Int) := by omega
      have ET : cnT T root i = T y := by unfold cnT; rw [ey]; rfl
      have c3 : wr.cell? ⟨B3, 3, none⟩ = some (.slice oN n cN) := (hks.cell HL3.out HSB.out).trans (cell_of_block HB3.out 3)
      have hKw : KS S w wr := HK3.out.trans hks
      rcases HRR.out wr hKw with ⟨_, h0⟩ | ⟨nb, no, nc, hv, _, _, _, hnc⟩
      · omega
      cases hv
      obtain ⟨O, X, Y, Z, hE⟩ : ∃ O X Y Z, T y = (O, X, Y, Z) := ⟨_, _, _, _, rfl⟩
      rw [hE] at ET
      obtain ⟨t0, t1, t2, t3, t4, t5, t6⟩ := nC_cells O X Y Z
      have b0 := hnc y hyn 0 (by decide); have b1 := hnc y hyn 1 (by decide); have b2 := hnc y hyn 2 (by decide); have b3 := hnc y hyn 3 (by decide); have b4 := hnc y hyn 4 (by decide); have b5 := hnc y hyn 5 (by decide); have b6 := hnc y hyn 6 (by decide)
      dsimp only at b0 b1 b2 b3 b4 b5 b6
      rw [hE] at b0 b1 b2 b3 b4 b5 b6
      rw [t0] at b0; rw [t1] at b1; rw [t2] at b2; rw [t3] at b3; rw [t4] at b4; rw [t5] at b5; rw [t6] at b6
      rw [Nat.add_zero] at b0
      have HET : Hid (cnT T root i = (O, X, Y, Z)) := ET
      have hba : Below wr.heap.size wr (wr.alloc (.cells #[.int .i64 O, .int .i64 X, .int .i64 Y, .int .u64 ((limb 0 Z : Nat) : Int), .int .u64 ((limb 1 Z : Nat) : Int), .int .u64 ((limb 2 Z : Nat) : Int), .int .u64 ((limb 3 Z : Nat) : Int)] 56)) := bAlloc (Below.refl _ _) _
      have HKA : Hid (KS S w3 (wr.alloc (.cells #[.int .i64 O, .int .i64 X, .int .i64 Y, .int .u64 ((limb 0 Z : Nat) : Int), .int .u64 ((limb 1 Z : Nat) : Int), .int .u64 ((limb 2 Z : Nat) : Int), .int .u64 ((limb 3 Z : Nat) : Int)] 56))) := hks.trans (KS.of hba)
      have HVA : Hid (V i (wr.alloc (.cells #[.int .i64 O, .int .i64 X, .int .i64 Y, .int .u64 ((limb 0 Z : Nat) : Int), .int .u64 ((limb 1 Z : Nat) : Int), .int .u64 ((limb 2 Z : Nat) : Int), .int .u64 ((limb 3 Z : Nat) : Int)] 56))) := HVB.out i _ _ hba HV.out
      clear hcell hnc ey hE ET t0 t1 t2 t3 t4 t5 t6 hks hKw hba
      by_cases hq : 2 ≤ O ∧ O ≤ 4
      · have HCA := fun (w' : World) => HCC.out i hlt (by rw [HET.out]; exact decide_eq_true hq) w'
        rw [HET.out] at HCA
        have HCD : Hid (∀ w', KS S w w' → V i w' → Calls Tryz.prog k ((bd ++ #[.int .i64 Y]) ++ fr) w' fun e w2 => e = .returned (.tuple #[]) ∧ KS S w' w2 ∧ V (i + 1) w2) := HCA
        have hent : ∀ (w : World) (args : Array Value), (callFunc k args).run Tryz.prog w = .ok (.enter k args) w := HEK.out
        clear HCA
        have hc : O = 2 ∨ O = 3 ∨ O = 4 := by omega
        clear hq
        rcases hc with rfl | rfl | rfl
        all_goals
          go_wp2_with fail
          refine (HCD.out _ (HK3.out.trans HKA.out) HVA.out).mono ?_
          rintro e w5 ⟨rfl, hk5, hv5⟩
          have HV5 : Hid (V (i + 1) w5) := hv5
          have HK5 : Hid (KS S w3 w5) := HKA.out.trans hk5
          clear hk5 hv5 hent
          go_wp2
          go_roundw
          case measure => simp [intOf]; omega
          case rel => exact ⟨i + 1, by go_num, hlt, HK5.out, HV5⟩
      · have HV5 := HNN.out i hlt (by rw [HET.out]; exact decide_eq_false hq) _ HVA.out
        have HV6 : Hid (V (i + 1) (wr.alloc (.cells #[.int .i64 O, .int .i64 X, .int .i64 Y, .int .u64 ((limb 0 Z : Nat) : Int), .int .u64 ((limb 1 Z : Nat) : Int), .int .u64 ((limb 2 Z : Nat) : Int), .int .u64 ((limb 3 Z : Nat) : Int)] 56))) := HV5
        have q2 : ¬ O = 2 := by omega
        have q3 : ¬ O = 3 := by omega
        have q4 : ¬ O = 4 := by omega
        clear hq HV5
        go_wp2
        go_roundw
        case measure => simp [intOf]; omega
        case rel => exact ⟨i + 1, by go_num, hlt, HKA.out, HV6⟩
    · have hii : ¬ (i : Int) < (N : Int) := by omega
      have ei : i = N := by omega
      have HVN : Hid (V N wr) := by rw [ei] at HV; exact HV
      have HKN : Hid (KS S w wr) := HK3.out.trans hks
      clear ei HV hks
      go_wp2
      exact bodyPost_end (v := .tuple #[]) (by simp [results, Tryz.results106, go_sem]) rfl ⟨rfl, HKN.out, HVN.out⟩
end Go.Proofs.YtgldibfpidmfhaaGreatDoor

/- A circuit that is looked at: staysInRow, reach, greatest. -/
namespace Go.Proofs.YtgldibfpidmfhaaGreatDoor
open Go.RowKit
/-- A block of one number. -/
def CB (w : World) (o : Nat) (c : Int) : Prop := w.heap[o]? = some (.cells #[.int .i64 c] 3)
theorem CB.below {w w' : World} {o : Nat} {c : Int} (h : CB w o c) (hb : Below w.heap.size w w') : CB w' o c := by
  have hl : o < w.heap.size := (Array.getElem?_eq_some_iff.1 h).1
  exact (hb.block o hl).trans h
theorem CB.lt {w : World} {o : Nat} {c : Int} (h : CB w o c) : o < w.heap.size := (Array.getElem?_eq_some_iff.1 h).1
theorem CB.cell {w : World} {o : Nat} {c : Int} (h : CB w o c) : w.cell? ⟨o, 0, none⟩ = some (.int .i64 c) := cell_of_block h 0
theorem CB.frozen {w : World} {o : Nat} {c : Int} (h : CB w o c) (a : Nat) : w.frozen? ⟨o, a, none⟩ = false := by
  unfold CB at h
  simp [World.frozen?, h]
theorem CB.set {w : World} {o : Nat} {c : Int} (h : CB w o c) (c' : Int) : CB (w.setCell ⟨o, 0, none⟩ (.int .i64 c')) o c' := by
  unfold CB at h ⊢
  simp [World.setCell, Array.getElem?_modify, h]
theorem CB.other {w : World} {o : Nat} {c : Int} (h : CB w o c) {a : Addr} (ha : o ≠ a.block) (v : Value) : CB (w.setCell a v) o c := (Below.heap_setCell w a v o ha).trans h
theorem CB.new (w : World) (c : Int) : CB (w.alloc (.cells #[.int .i64 c] 3)) w.heap.size c := by
  show (w.heap.push _)[w.heap.size]? = _; simp
set_option maxHeartbeats 4000000 in
theorem stays1_any (rot c : Int) (o : Nat) (hc : 0 ≤ c ∧ c ≤ 1000000) (w : World) (h : CB w o c) :
    Calls Tryz.prog 139 #[.int .i64 rot, .pointer (some ⟨o, 0, none⟩)] w fun e w' => e = .returned (.tuple #[]) ∧ w' = (if rot = 0 then w else w.setCell ⟨o, 0, none⟩ (.int .i64 (c + 1))) := by
  have hc0 := hc.1
  have hc1 := hc.2
  by_cases h0 : rot = 0
  · rw [if_pos h0]
    subst h0
    go_enter Tryz.func139, Tryz.ntmps139
    go_wp2
    exact bodyPost_end (v := .tuple #[]) (by simp [results, Tryz.results139, go_sem]) rfl ⟨rfl, rfl⟩
  · rw [if_neg h0]
    have c0 := h.cell
    have f0 := h.frozen
    go_enter Tryz.func139, Tryz.ntmps139
    go_wp2
    exact bodyPost_end (v := .tuple #[]) (by simp [results, Tryz.results139, go_sem]) rfl ⟨rfl, rfl⟩
/-- Has no query of the cone another row? -/
def rowB (T : Nat → Int × Int × Int × Nat) (root : Nat) : Bool := decide (∀ j, j < cnN T root (root + 1) → isQ (cnT T root j).1 = true → (cnT T root j).2.2.1 = 0)
theorem ent71 : Ent 139 := fun w args => by kernel_rfl
theorem stays_in (F A I : Int) (oN oG oL oE oD : Option Addr) (n cN g cG l cL m cE d cD : Nat) (T : Nat → Int × Int × Int × Nat) (root : Nat) (hn : n ≤ 1000000) (ho : ordB n T = true) (hr : root < n) (w : World) (hR : Rs w (.slice oN n cN) 7 n (fun i => nC (T i))) :
    Calls Tryz.prog 132 #[.agg #[.int .i64 F, .int .i64 A, .int .i64 I, .slice oN n cN, .slice oG g cG, .slice oL l cL, .slice oE m cE, .slice oD d cD], .int .i64 (root : Int)] w fun e w' => e = .returned (.bool (rowB T root)) ∧ Below w.heap.size w w' := by
  obtain ⟨w1, ew1⟩ : ∃ x : World, x = w.alloc (.cells #[.int .i64 F, .int .i64 A, .int .i64 I, .slice oN n cN, .slice oG g cG, .slice oL l cL, .slice oE m cE, .slice oD d cD] 133) := ⟨_, rfl⟩
  have hb1 : Below w.heap.size w w1 := by rw [ew1]; exact bAlloc (Below.refl _ _) _
  obtain ⟨o, eo⟩ : ∃ o, o = w.heap.size + 1 := ⟨_, rfl⟩
  have eo' : w1.heap.size = o := by rw [ew1, eo]; simp
  obtain ⟨w2, ew2⟩ : ∃ x : World, x = w1.alloc (.cells #[.int .i64 0] 3) := ⟨_, rfl⟩
  have hb2 : Below w.heap.size w w2 := by rw [ew2]; exact bAlloc hb1 _
  have hcb : CB w2 o 0 := by rw [ew2, ← eo']; exact CB.new w1 0
  have HWO : Hid (w.heap.size ≤ o) := by rw [← eo']; exact hb1.size
  have hal : KS (fun b => b = o) w2 w2 := KS.refl _ _
  have HROT : Hid (Calls _ _ _ _ _) := rots_in F A I oN oG oL oE oD n cN g cG l cL m cE d cD T root 139 ent71 #[] #[.pointer (some ⟨o, 0, none⟩)] (fun b => b = o)
    (fun i w' => ∃ c : Int, CB w' o c ∧ 0 ≤ c ∧ c ≤ (i : Int) ∧ (c = 0 ↔ ∀ j, j < i → isQ (cnT T root j).1 = true → (cnT T root j).2.2.1 = 0)) hn ho hr w2
    (fun b hb => by rw [hb]; exact hcb.lt) (fun w' hk => hR.below (hb2.trans (hk.below hb2.size (fun b hb => by rw [hb]; exact HWO.out))))
    ⟨0, hcb, by omega, by omega, ⟨fun _ j hj => by omega, fun _ => rfl⟩⟩
    (fun i w1 w2 hb h => by obtain ⟨c, h1, h2⟩ := h; exact ⟨c, h1.below hb, h2⟩)
    (fun i hi hq w' hk h => by
      obtain ⟨c, h1, h2, h3, h4⟩ := h
      have hN := cnN_le T root (root + 1)
      refine (stays1_any (cnT T root i).2.2.1 c o ⟨h2, by omega⟩ w' h1).mono ?_
      rintro e w5 ⟨he, hw5⟩
      refine ⟨he, ?_⟩
      by_cases h0 : (cnT T root i).2.2.1 = 0
      · rw [if_pos h0] at hw5
        subst hw5
        refine ⟨KS.refl _ _, c, h1, h2, by omega, ?_⟩
        rw [h4]
        refine ⟨fun a j hj hq' => ?_, fun a j hj hq' => a j (by omega) hq'⟩
        rcases Nat.lt_or_ge j i with h | h
        · exact a j h hq'
        · rw [show j = i by omega]; exact h0
      · rw [if_neg h0] at hw5
        subst hw5
        refine ⟨KS.setCell w' ⟨o, 0, none⟩ _ rfl, c + 1, h1.set _, by omega, by omega, ?_⟩
        exact ⟨fun a => by omega, fun a => absurd (a i (by omega) hq) h0⟩)
    (fun i hi hq w' h => by
      obtain ⟨c, h1, h2, h3, h4⟩ := h
      refine ⟨c, h1, h2, by omega, ?_⟩
      rw [h4]
      refine ⟨fun a j hj hq' => ?_, fun a j hj hq' => a j (by omega) hq'⟩
      rcases Nat.lt_or_ge j i with h | h
      · exact a j h hq'
      · rw [show j = i by omega, hq] at hq'; cases hq')
  have HB2 : Hid (Below w.heap.size w w2) := hb2
  obtain ⟨bR, ebR⟩ : ∃ b, b = rowB T root := ⟨_, rfl⟩
  rw [← ebR]
  have HEB : Hid (bR = rowB T root) := ebR
  clear hal hcb hR ho hr hn ebR hb1 hb2
  go_enter Tryz.func132, Tryz.ntmps132
  go_upto_region 2 with fail
  rw [← ew1, ← eo, ← ew2]
  have f1 : w2.heap[w.heap.size]? = some (.cells #[.int .i64 F, .int .i64 A, .int .i64 I, .slice oN n cN, .slice oG g cG, .slice oL l cL, .slice oE m cE, .slice oD d cD] 133) := by
    rw [ew2]
    exact (((Below.refl w1.heap.size w1).alloc (Nat.le_refl _) _).block w.heap.size (by omega)).trans (by rw [ew1]; show (w.heap.push _)[w.heap.size]? = _; simp)
  have HW1 : Hid (w2 = w1.alloc (.cells #[.int .i64 0] 3)) := ew2
  obtain ⟨b1, eb1⟩ : ∃ x, x = w.heap.size := ⟨_, rfl⟩
  rw [← eb1] at f1 ⊢
  have d0 := cell_of_block f1 0; have d1 := cell_of_block f1 1; have d2 := cell_of_block f1 2; have d3 := cell_of_block f1 3; have d4 := cell_of_block f1 4; have d5 := cell_of_block f1 5; have d6 := cell_of_block f1 6; have d7 := cell_of_block f1 7
  have HEB1 : Hid (b1 = w.heap.size) := eb1
  simp only [List.getElem?_toArray, List.getElem?_cons_zero, List.getElem?_cons_succ] at d0 d1 d2 d3 d4 d5 d6 d7
  clear ew1 eo eo' ew2 f1 eb1
  go_wp2_with fail
  refine Calls.mono HROT.out ?_
  rintro e w5 ⟨rfl, hk5, c, hc5, hc0, hc1, hiff⟩
  have HB5 : Hid (Below w.heap.size w w5) := HB2.out.trans (hk5.below HB2.out.size (fun b hb => by rw [hb]; exact HWO.out))
  have c0 := hc5.cell
  have HRB : Hid (bR = decide (c = 0)) := by
    show bR = decide (c = 0)
    rw [HEB.out]; unfold rowB
    exact decide_eq_decide.mpr hiff.symm
  clear HROT hk5 hc5 d0 d1 d2 d3 d4 d5 d6 d7 hiff hc1
  by_cases hz : c = 0
  · subst hz
    go_wp2
    go_ret
    exact ⟨by rw [HRB.out]; rfl, HB5.out⟩
  · have HZ : Hid (decide (c = 0) = false) := decide_eq_false hz
    have hz2 : (c == 0) = false := beq_eq_false_iff_ne.mpr hz
    go_wp2
    go_ret
    exact ⟨by rw [HRB.out, HZ.out]; rfl, HB5.out⟩
end Go.Proofs.YtgldibfpidmfhaaGreatDoor

/- A circuit that is looked at: reach, greatest; Usable. -/
namespace Go.Proofs.YtgldibfpidmfhaaGreatDoor
open Go.RowKit
/-- How far the first i queries of the cone reach back, and on. -/
def bkN (T : Nat → Int × Int × Int × Nat) (root : Nat) : Nat → Int
  | 0 => 0
  | i + 1 => if isQ (cnT T root i).1 = true then max (bkN T root i) (-(cnT T root i).2.2.1) else bkN T root i
def fwN (T : Nat → Int × Int × Int × Nat) (root : Nat) : Nat → Int
  | 0 => 0
  | i + 1 => if isQ (cnT T root i).1 = true then max (fwN T root i) (cnT T root i).2.2.1 else fwN T root i
theorem reach_range (T : Nat → Int × Int × Int × Nat) (root : Nat) : ∀ i, (∀ j, j < i → isQ (cnT T root j).1 = true → -3 ≤ (cnT T root j).2.2.1 ∧ (cnT T root j).2.2.1 ≤ 3) → (0 ≤ bkN T root i ∧ bkN T root i ≤ 3) ∧ 0 ≤ fwN T root i ∧ fwN T root i ≤ 3
  | 0, _ => ⟨⟨Int.le_refl 0, (by decide : (0 : Int) ≤ 3)⟩, Int.le_refl 0, (by decide : (0 : Int) ≤ 3)⟩
  | i + 1, h => by
    obtain ⟨h1, h2⟩ := reach_range T root i (fun j hj => h j (by omega))
    show (0 ≤ (if isQ (cnT T root i).1 = true then max (bkN T root i) (-(cnT T root i).2.2.1) else bkN T root i) ∧ (if isQ (cnT T root i).1 = true then max (bkN T root i) (-(cnT T root i).2.2.1) else bkN T root i) ≤ 3) ∧ 0 ≤ (if isQ (cnT T root i).1 = true then max (fwN T root i) (cnT T root i).2.2.1 else fwN T root i) ∧ (if isQ (cnT T root i).1 = true then max (fwN T root i) (cnT T root i).2.2.1 else fwN T root i) ≤ 3
    by_cases hq : isQ (cnT T root i).1 = true
    · have h3 := h i (by omega) hq
      rw [if_pos hq, if_pos hq]
      omega
    · rw [if_neg hq, if_neg hq]
      exact ⟨h1, h2⟩
set_option maxHeartbeats 4000000 in
theorem reach1_any (rot x y : Int) (o p : Nat) (hop : o ≠ p) (hr : -3 ≤ rot ∧ rot ≤ 3) (w : World) (hx : CB w o x) (hy : CB w p y) :
    Calls Tryz.prog 107 #[.int .i64 rot, .pointer (some ⟨o, 0, none⟩), .pointer (some ⟨p, 0, none⟩)] w fun e w' => e = .returned (.tuple #[]) ∧ w' = (w.setCell ⟨o, 0, none⟩ (.int .i64 (max x (-rot)))).setCell ⟨p, 0, none⟩ (.int .i64 (max y rot)) := by
  have r0 := hr.1
  have r1 := hr.2
  have c0 := hx.cell
  have f0 := hx.frozen
  have c1 : ∀ v, (w.setCell ⟨o, 0, none⟩ v).cell? ⟨p, 0, none⟩ = some (.int .i64 y) := fun v => (hy.other (a := ⟨o, 0, none⟩) (fun e => hop e.symm) v).cell
  have f1 : ∀ v a, (w.setCell ⟨o, 0, none⟩ v).frozen? ⟨p, a, none⟩ = false := fun v => (hy.other (a := ⟨o, 0, none⟩) (fun e => hop e.symm) v).frozen
  have hw : IntKind.i64.wrap (-rot) = -rot := by simp [IntKind.wrap, IntKind.bits, IntKind.signed]; omega
  clear hr hx hy hop
  by_cases h1 : x < -rot
  · have HM1 : Hid (max x (-rot) = -rot) := by show max x (-rot) = -rot; omega
    by_cases h2 : y < rot
    · have HM2 : Hid (max y rot = rot) := by show max y rot = rot; omega
      go_enter Tryz.func107, Tryz.ntmps107
      go_wp2
      exact bodyPost_end (v := .tuple #[]) (by simp [results, Tryz.results107, go_sem]) rfl ⟨rfl, by rw [HM1.out, HM2.out]⟩
    · have HM2 : Hid (max y rot = y) := by show max y rot = y; omega
      go_enter Tryz.func107, Tryz.ntmps107
      go_wp2
      exact bodyPost_end (v := .tuple #[]) (by simp [results, Tryz.results107, go_sem]) rfl ⟨rfl, by rw [HM1.out, HM2.out]⟩
  · have HM1 : Hid (max x (-rot) = x) := by show max x (-rot) = x; omega
    by_cases h2 : y < rot
    · have HM2 : Hid (max y rot = rot) := by show max y rot = rot; omega
      go_enter Tryz.func107, Tryz.ntmps107
      go_wp2
      exact bodyPost_end (v := .tuple #[]) (by simp [results, Tryz.results107, go_sem]) rfl ⟨rfl, by rw [HM1.out, HM2.out]⟩
    · have HM2 : Hid (max y rot = y) := by show max y rot = y; omega
      go_enter Tryz.func107, Tryz.ntmps107
      go_wp2
      exact bodyPost_end (v := .tuple #[]) (by simp [results, Tryz.results107, go_sem]) rfl ⟨rfl, by rw [HM1.out, HM2.out]⟩
set_option maxHeartbeats 4000000 in
theorem usable_any (k : Int) (w : World) : Calls Tryz.prog 74 #[.int .i64 k] w fun e w' => e = .returned (.int .i64 (if 2 ≤ k ∧ k ≤ 30 then 2 ^ k.toNat - 4 else 0)) ∧ w' = w := by
  by_cases h2 : k < 2
  · rw [if_neg (by omega)]
    go_enter Tryz.func74, Tryz.ntmps74
    go_wp2
    go_ret
    exact ⟨rfl, rfl⟩
  · by_cases h30 : 30 < k
    · rw [if_neg (by omega)]
      go_enter Tryz.func74, Tryz.ntmps74
      go_wp2
      go_ret
      exact ⟨rfl, rfl⟩
    · rw [if_pos (by omega)]
      obtain ⟨q, rfl⟩ : ∃ q : Nat, k = q := ⟨k.toNat, by omega⟩
      have hq : 2 ≤ q ∧ q ≤ 30 := by omega
      have hk0 : ¬ (q : Int) < 0 := by omega
      have e1 : (2 : Int) ^ q = ((2 ^ q : Nat) : Int) := by simp
      have hP : 4 ≤ 2 ^ q ∧ 2 ^ q ≤ 1073741824 := ⟨Nat.pow_le_pow_right (n := 2) (by decide) hq.1, Nat.pow_le_pow_right (n := 2) (by decide) hq.2⟩
      obtain ⟨P, eP⟩ : ∃ P, P = 2 ^ q := ⟨_, rfl⟩
      rw [← eP] at e1 hP
      have hkw : IntKind.i64.wrap ((2 : Int) ^ q) = (P : Int) := by rw [e1]; simp [IntKind.wrap, IntKind.bits, IntKind.signed]; omega
      have HE : Hid ((2 : Int) ^ q = (P : Int)) := e1
      clear eP e1
      go_enter Tryz.func74, Tryz.ntmps74
      go_wp2
      go_ret
      exact ⟨by rw [HE.out]; rfl, rfl⟩
theorem ent54 : Ent 107 := fun w args => by kernel_rfl
set_option maxHeartbeats 8000000 in
set_option maxRecDepth 100000 in
theorem reach_in (F A I : Int) (oN oG oL oE oD : Option Addr) (n cN g cG l cL m cE d cD : Nat) (T : Nat → Int × Int × Int × Nat) (root : Nat) (hn : n ≤ 1000000) (ho : ordB n T = true) (hr : root < n) (hY : ∀ j, j < cnN T root (root + 1) → isQ (cnT T root j).1 = true → -3 ≤ (cnT T root j).2.2.1 ∧ (cnT T root j).2.2.1 ≤ 3) (w : World) (hR : Rs w (.slice oN n cN) 7 n (fun i => nC (T i))) :
    Calls Tryz.prog 77 #[.agg #[.int .i64 F, .int .i64 A, .int .i64 I, .slice oN n cN, .slice oG g cG, .slice oL l cL, .slice oE m cE, .slice oD d cD], .int .i64 (root : Int)] w fun e w' => e = .returned (.tuple #[.int .i64 (bkN T root (cnN T root (root + 1))), .int .i64 (fwN T root (cnN T root (root + 1)))]) ∧ Below w.heap.size w w' := by
  obtain ⟨w1, ew1⟩ : ∃ x : World, x = w.alloc (.cells #[.int .i64 F, .int .i64 A, .int .i64 I, .slice oN n cN, .slice oG g cG, .slice oL l cL, .slice oE m cE, .slice oD d cD] 133) := ⟨_, rfl⟩
  have hb1 : Below w.heap.size w w1 := by rw [ew1]; exact bAlloc (Below.refl _ _) _
  obtain ⟨o, eo⟩ : ∃ o, o = w.heap.size + 1 := ⟨_, rfl⟩
  have eo' : w1.heap.size = o := by rw [ew1, eo]; simp
  obtain ⟨p, ep⟩ : ∃ p, p = o + 1 := ⟨_, rfl⟩
  obtain ⟨w2, ew2⟩ : ∃ x : World, x = w1.alloc (.cells #[.int .i64 0] 3) := ⟨_, rfl⟩
  have ep' : w2.heap.size = p := by rw [ew2, ep]; simp; omega
  obtain ⟨w3, ew3⟩ : ∃ x : World, x = w2.alloc (.cells #[.int .i64 0] 3) := ⟨_, rfl⟩
  have hb2 : Below w.heap.size w w2 := by rw [ew2]; exact bAlloc hb1 _
  have hb3 : Below w.heap.size w w3 := by rw [ew3]; exact bAlloc hb2 _
  have hcb : CB w3 o 0 := by rw [ew3]; exact CB.below (by rw [ew2, ← eo']; exact CB.new w1 0) (bAlloc (Below.refl _ _) _)
  have hcp : CB w3 p 0 := by rw [ew3, ← ep']; exact CB.new w2 0
  have hop : o ≠ p := by omega
  have HWO : Hid (∀ b, (b = o ∨ b = p) → w.heap.size ≤ b) := fun b hb => by rcases hb with h | h <;> omega
  have HROT : Hid (Calls _ _ _ _ _) := rots_in F A I oN oG oL oE oD n cN g cG l cL m cE d cD T root 107 ent54 #[] #[.pointer (some ⟨o, 0, none⟩), .pointer (some ⟨p, 0, none⟩)] (fun b => b = o ∨ b = p)
    (fun i w' => CB w' o (bkN T root i) ∧ CB w' p (fwN T root i)) hn ho hr w3
    (fun b hb => by rcases hb with rfl | rfl; exact hcb.lt; exact hcp.lt) (fun w' hk => hR.below (hb3.trans (hk.below hb3.size HWO.out)))
    ⟨hcb, hcp⟩
    (fun i w1 w2 hb h => ⟨h.1.below hb, h.2.below hb⟩)
    (fun i hi hq w' hk h => by
      refine (reach1_any (cnT T root i).2.2.1 _ _ o p hop (hY i hi hq) w' h.1 h.2).mono ?_
      rintro e w5 ⟨he, hw5⟩
      subst hw5
      refine ⟨he, (KS.setCell w' ⟨o, 0, none⟩ _ (Or.inl rfl)).trans (KS.setCell _ ⟨p, 0, none⟩ _ (Or.inr rfl)), ?_, ?_⟩
      · show CB _ o (if isQ (cnT T root i).1 = true then max (bkN T root i) (-(cnT T root i).2.2.1) else bkN T root i)
        rw [if_pos hq]
        exact (h.1.set _).other hop _
      · show CB _ p (if isQ (cnT T root i).1 = true then max (fwN T root i) (cnT T root i).2.2.1 else fwN T root i)
        rw [if_pos hq]
        exact CB.set (h.2.other (fun e => hop e.symm) _) _)
    (fun i hi hq w' h => by
      have hq' : ¬ isQ (cnT T root i).1 = true := by rw [hq]; decide
      refine ⟨?_, ?_⟩
      · show CB _ o (if isQ (cnT T root i).1 = true then max (bkN T root i) (-(cnT T root i).2.2.1) else bkN T root i)
        rw [if_neg hq']; exact h.1
      · show CB _ p (if isQ (cnT T root i).1 = true then max (fwN T root i) (cnT T root i).2.2.1 else fwN T root i)
        rw [if_neg hq']; exact h.2)
  obtain ⟨x, ex⟩ : ∃ x, x = bkN T root (cnN T root (root + 1)) := ⟨_, rfl⟩
  obtain ⟨y, ey⟩ : ∃ y, y = fwN T root (cnN T root (root + 1)) := ⟨_, rfl⟩
  rw [← ex, ← ey]
  have HEX : Hid (x = bkN T root (cnN T root (root + 1))) := ex
  have HEY : Hid (y = fwN T root (cnN T root (root + 1))) := ey
  clear ex ey
  have HB3 : Hid (Below w.heap.size w w3) := hb3
  have HOP : Hid (o ≠ p) := hop
  clear hcb hcp hR ho hr hn hY
  go_enter Tryz.func77, Tryz.ntmps77
  go_upto_region 1 with fail
  rw [← ew1, ← eo, ← ew2, ← ep, ← ew3]
  have f1 : w3.heap[w.heap.size]? = some (.cells #[.int .i64 F, .int .i64 A, .int .i64 I, .slice oN n cN, .slice oG g cG, .slice oL l cL, .slice oE m cE, .slice oD d cD] 133) := by
    rw [ew3]
    refine (((Below.refl w2.heap.size w2).alloc (Nat.le_refl _) _).block w.heap.size (by omega)).trans ?_
    rw [ew2]
    exact (((Below.refl w1.heap.size w1).alloc (Nat.le_refl _) _).block w.heap.size (by omega)).trans (by rw [ew1]; show (w.heap.push _)[w.heap.size]? = _; simp)
  obtain ⟨b1, eb1⟩ : ∃ x, x = w.heap.size := ⟨_, rfl⟩
  rw [← eb1] at f1 ⊢
  have d0 := cell_of_block f1 0; have d1 := cell_of_block f1 1; have d2 := cell_of_block f1 2; have d3 := cell_of_block f1 3; have d4 := cell_of_block f1 4; have d5 := cell_of_block f1 5; have d6 := cell_of_block f1 6; have d7 := cell_of_block f1 7
  simp only [List.getElem?_toArray, List.getElem?_cons_zero, List.getElem?_cons_succ] at d0 d1 d2 d3 d4 d5 d6 d7
  clear ew1 eo eo' ew2 f1 eb1 ep ep' ew3 hb1 hb2 hb3 hop
  go_wp2_with fail
  refine Calls.mono HROT.out ?_
  rintro e w5 ⟨rfl, hk5, hc5, hp5⟩
  have HB5 : Hid (Below w.heap.size w w5) := HB3.out.trans (hk5.below HB3.out.size HWO.out)
  rw [← HEX.out] at hc5
  rw [← HEY.out] at hp5
  have c0 := hc5.cell
  have f0 := hc5.frozen
  have c1 := hp5.cell
  have g1 := hp5.frozen
  clear HROT hk5 d0 d1 d2 d3 d4 d5 d6 d7
  clear c0 f0 c1 g1
  go_wp2_with fail
  refine wp_region_Z (fun w' => CB w' o x ∧ CB w' p y ∧ Below w.heap.size w w') 4 (by kernel_rfl) ?_
  obtain ⟨wD, hD⟩ : ∃ z : World, z = w5.drew := ⟨_, rfl⟩
  rw [← hD]
  have hp0 : CB wD o x ∧ CB wD p y ∧ Below w.heap.size w wD := by rw [hD]; exact ⟨hc5, hp5, HB5.out.drew⟩
  clear hD hc5 hp5 HB5
  refine wpZ_take (i := 0) (v := .int .i64 x) 10 rfl rfl (by kernel_rfl) (by kernel_rfl) (by kernel_rfl) (Or.inr (by decide)) (fun _ _ _ h => h) (Or.inl ⟨by rfl, fun w hSw => by have c0 := hSw.1.cell; go_simp⟩) hp0 ?_
  simp only [Act.put, List.setIfInBounds_toArray]
  dsimp only [List.set_cons_zero, List.set_cons_succ]
  refine wpZ_take (i := 1) (v := .int .i64 y) 11 rfl rfl (by kernel_rfl) (by kernel_rfl) (by kernel_rfl) (Or.inr (by decide)) (fun _ _ _ h => h) (Or.inl ⟨by rfl, fun w hSw => by have c0 := hSw.2.1.cell; go_simp⟩) hp0 ?_
  simp only [Act.put, List.setIfInBounds_toArray]
  dsimp only [List.set_cons_zero, List.set_cons_succ]
  refine wpZ_one (i := 2) (by kernel_rfl) rfl (fun K hK => ?_)
  have c0 := hp0.1.cell
  have f0 := hp0.1.frozen
  obtain ⟨w6, e6⟩ : ∃ z : World, z = wD.setCell ⟨o, 0, none⟩ (.int .i64 x) := ⟨_, rfl⟩
  have hp1 : CB w6 o x ∧ CB w6 p y ∧ Below w.heap.size w w6 := by rw [e6]; exact ⟨hp0.1.set _, hp0.2.1.other (fun e => HOP.out e.symm) _, hp0.2.2.setCell (HWO.out o (Or.inl rfl)) _⟩
  go_simp
  rw [← e6]
  refine hK.out _ _ (fun _ => hp1) ?_
  clear hK K c0 f0 e6 hp0
  refine wpZ_one (i := 3) (by kernel_rfl) rfl (fun K hK => ?_)
  have c0 := hp1.2.1.cell
  have f0 := hp1.2.1.frozen
  obtain ⟨w7, e7⟩ : ∃ z : World, z = w6.setCell ⟨p, 0, none⟩ (.int .i64 y) := ⟨_, rfl⟩
  have hp2 : CB w7 o x ∧ CB w7 p y ∧ Below w.heap.size w w7 := by rw [e7]; exact ⟨hp1.1.other HOP.out _, hp1.2.1.set _, hp1.2.2.setCell (HWO.out p (Or.inr rfl)) _⟩
  go_simp
  rw [← e7]
  refine hK.out _ _ (fun _ => hp2) ?_
  clear hK K c0 f0 e7 hp1
  refine wpZ_done (by kernel_rfl) ?_ _
  have c0 := hp2.1.cell
  have c1 := hp2.2.1.cell
  have HB7 : Hid (Below w.heap.size w w7) := hp2.2.2
  clear hp2
  go_wp2
  exact bodyPost_ret (v := .tuple #[.int .i64 x, .int .i64 y]) (by simp [results, Tryz.results77, go_sem, c0, c1]) rfl ⟨rfl, HB7.out⟩
/-- The greatest of D at the first i places of P; 0 where there are none. -/
def grt (D P : Nat → Int) : Nat → Int
  | 0 => 0
  | i + 1 => max (grt D P i) (D (P i).toNat)
theorem grt_range (D P : Nat → Int) (hD : ∀ i, 0 ≤ D i ∧ D i ≤ 1000) : ∀ i, 0 ≤ grt D P i ∧ grt D P i ≤ 1000
  | 0 => ⟨Int.le_refl 0, (by decide : (0 : Int) ≤ 1000)⟩
  | i + 1 => by
    have h1 := grt_range D P hD i
    have h2 := hD (P i).toNat
    show 0 ≤ max (grt D P i) (D (P i).toNat) ∧ max (grt D P i) (D (P i).toNat) ≤ 1000
    omega
set_option maxHeartbeats 16000000 in
set_option maxRecDepth 100000 in
theorem greatest_in (F A I : Int) (oN oG oL oE oD : Option Addr) (n cN g cG l cL m cE d cD : Nat) (oP : Option Addr) (np cP : Nat) (D P : Nat → Int) (hnp : np ≤ 1000000) (hD : ∀ i, 0 ≤ D i ∧ D i ≤ 1000) (hP : ∀ i, i < np → 0 ≤ P i ∧ P i < (d : Int)) (w : World) (hzD : Zs w (.slice oD d cD) d D) (hzP : Zs w (.slice oP np cP) np P) :
    Calls Tryz.prog 138 #[.agg #[.int .i64 F, .int .i64 A, .int .i64 I, .slice oN n cN, .slice oG g cG, .slice oL l cL, .slice oE m cE, .slice oD d cD], .slice oP np cP] w fun e w' => e = .returned (.int .i64 (grt D P np)) ∧ Below w.heap.size w w' := by
  obtain ⟨w1, ew1⟩ : ∃ x : World, x = w.alloc (.cells #[.int .i64 F, .int .i64 A, .int .i64 I, .slice oN n cN, .slice oG g cG, .slice oL l cL, .slice oE m cE, .slice oD d cD] 133) := ⟨_, rfl⟩
  have hb1 : Below w.heap.size w w1 := by rw [ew1]; exact bAlloc (Below.refl _ _) _
  obtain ⟨b1, eb1⟩ : ∃ x, x = w.heap.size := ⟨_, rfl⟩
  have f1 : w1.heap[b1]? = some (.cells #[.int .i64 F, .int .i64 A, .int .i64 I, .slice oN n cN, .slice oG g cG, .slice oL l cL, .slice oE m cE, .slice oD d cD] 133) := by rw [ew1, eb1]; show (w.heap.push _)[w.heap.size]? = _; simp
  have d7 := cell_of_block f1 7
  simp only [List.getElem?_toArray, List.getElem?_cons_zero, List.getElem?_cons_succ] at d7
  have HzD : Hid (Zs w1 (.slice oD d cD) d D) := hzD.below hb1
  have HzP : Hid (Zs w1 (.slice oP np cP) np P) := hzP.below hb1
  have HP : Hid (∀ i, i < np → 0 ≤ P i ∧ P i < (d : Int)) := hP
  have HDD : Hid (∀ i, 0 ≤ D i ∧ D i ≤ 1000) := hD
  have HB1 : Hid (Below w.heap.size w w1) := hb1
  clear hb1 f1 hzD hzP hP hD
  go_enter Tryz.func138, Tryz.ntmps138
  go_upto_region 1 with fail
  rw [← ew1, ← eb1]
  clear ew1 eb1
  go_wp2
  go_loop [10, 5] (fun iv gv => ∃ i : Nat, iv = .int .i64 (i : Int) ∧ i ≤ np ∧ gv = .int .i64 (grt D P i)) (fun iv _ => np - (intOf iv).toNat)
  case atStart => exact ⟨0, rfl, Nat.zero_le _, rfl⟩
  case round =>
    obtain ⟨i, rfl, hi, rfl⟩ := hrel
    by_cases hlt : i < np
    · have hii : (i : Int) < (np : Int) := by omega
      have hi0 : (0 : Int) ≤ (i : Int) := by omega
      rcases HzP.out with ⟨_, h0⟩ | ⟨ab, ao, c', hv, _, _, _, hcell⟩
      · omega
      cases hv
      have a0 := hcell i hlt 0 (by decide)
      dsimp only at a0
      rw [Nat.add_zero, Nat.mul_one] at a0
      obtain ⟨y, ey⟩ : ∃ y : Nat, P i = (y : Int) := ⟨(P i).toNat, by have := HP.out i hlt; omega⟩
      have hyd : y < d := by have := HP.out i hlt; omega
      rw [ey] at a0
      have hy0 : (0 : Int) ≤ (y : Int) := by omega
      have hy1 : (y : Int) < (d : Int) := by omega
      rcases HzD.out with ⟨_, h0⟩ | ⟨db, dO, dc, hv, _, _, _, hdc⟩
      · omega
      cases hv
      have e0 := hdc y hyd 0 (by decide)
      dsimp only at e0
      rw [Nat.add_zero, Nat.mul_one] at e0
      obtain ⟨x, ex⟩ : ∃ x, x = D y := ⟨_, rfl⟩
      obtain ⟨G, eG⟩ : ∃ x, x = grt D P i := ⟨_, rfl⟩
      rw [← ex] at e0
      rw [← eG]
      have HGS : Hid (grt D P (i + 1) = max G x) := by
        show max (grt D P i) (D (P i).toNat) = max G x
        rw [eG, ex, ey]; rfl
      clear hcell hdc ey ex eG
      by_cases hx : G < x
      · have HM : Hid (grt D P (i + 1) = x) := by have := HGS.out; show grt D P (i + 1) = x; omega
        go_wp2
        go_round
        case measure => simp [intOf]; omega
        case rel => exact ⟨i + 1, by go_num, hlt, by rw [HM.out]⟩
      · have HM : Hid (grt D P (i + 1) = G) := by have := HGS.out; show grt D P (i + 1) = G; omega
        go_wp2
        go_round
        case measure => simp [intOf]; omega
        case rel => exact ⟨i + 1, by go_num, hlt, by rw [HM.out]⟩
    · have hii : ¬ (i : Int) < (np : Int) := by omega
      have ei : i = np := by omega
      subst ei
      go_wp2
      go_ret
      exact ⟨rfl, HB1.out⟩
set_option maxHeartbeats 4000000 in
theorem raise_any (z c : Int) (o : Nat) (w : World) (h : CB w o c) :
    Calls Tryz.prog 137 #[.int .i64 z, .pointer (some ⟨o, 0, none⟩)] w fun e w' => e = .returned (.tuple #[]) ∧ w' = w.setCell ⟨o, 0, none⟩ (.int .i64 (max c z)) := by
  have c0 := h.cell
  have f0 := h.frozen
  by_cases h1 : c < z
  · have HM : Hid (max c z = z) := by show max c z = z; omega
    go_enter Tryz.func137, Tryz.ntmps137
    go_wp2
    exact bodyPost_end (v := .tuple #[]) (by simp [results, Tryz.results137, go_sem]) rfl ⟨rfl, by rw [HM.out]⟩
  · have HM : Hid (max c z = c) := by show max c z = c; omega
    go_enter Tryz.func137, Tryz.ntmps137
    go_wp2
    exact bodyPost_end (v := .tuple #[]) (by simp [results, Tryz.results137, go_sem]) rfl ⟨rfl, by rw [HM.out]⟩
end Go.Proofs.YtgldibfpidmfhaaGreatDoor

