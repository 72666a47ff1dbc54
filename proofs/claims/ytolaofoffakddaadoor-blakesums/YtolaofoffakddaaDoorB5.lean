/- What blake.compress does. -/
import Derived.Test.YtolaofoffakddaaDoorB4
import Derived.KernelRfl
namespace Go.Proofs.YtolaofoffakddaaDoor
open Go.RowKit

theorem BlkN.other4 {W : World} {t : TypeId} {b r n : Nat} {f : Nat → Nat} (h : BlkN W t b n f) (hr : b ≠ r) (i0 i1 i2 i3 : Nat) (v0 v1 v2 v3 : Value) :
    BlkN ((((W.setCell ⟨r, i0, none⟩ v0).setCell ⟨r, i1, none⟩ v1).setCell ⟨r, i2, none⟩ v2).setCell ⟨r, i3, none⟩ v3) t b n f :=
  (((h.other hr _).other hr _).other hr _).other hr _
theorem bSetAt4 {w W : World} (h : Below w.heap.size w W) {r : Nat} (hr : w.heap.size ≤ r) (i0 i1 i2 i3 : Nat) (v0 v1 v2 v3 : Value) :
    Below w.heap.size w ((((W.setCell ⟨r, i0, none⟩ v0).setCell ⟨r, i1, none⟩ v1).setCell ⟨r, i2, none⟩ v2).setCell ⟨r, i3, none⟩ v3) :=
  (((h.setCell hr _).setCell hr _).setCell hr _).setCell hr _

/-- What holds of the blocks at the head of the rounds: h, m, the result, v. -/
def Rin (w W : World) (h m v : Nat → Nat) : Prop :=
  Below w.heap.size w W ∧ BlkN W 44 w.heap.size 8 h ∧ BlkN W 51 (w.heap.size + 1) 16 m ∧ BlkN W 44 (w.heap.size + 1 + 1) 8 (fun _ => 0) ∧ BlkN W 50 (w.heap.size + 1 + 1 + 1) 16 v
theorem Rin.mk {w W : World} {h m v : Nat → Nat} (h1 : Below w.heap.size w W) (h2 : BlkN W 44 w.heap.size 8 h) (h3 : BlkN W 51 (w.heap.size + 1) 16 m) (h4 : BlkN W 44 (w.heap.size + 1 + 1) 8 (fun _ => 0)) (h5 : BlkN W 50 (w.heap.size + 1 + 1 + 1) 16 v) : Rin w W h m v := ⟨h1, h2, h3, h4, h5⟩
theorem Rin.below {w W : World} {h m v : Nat → Nat} (R : Rin w W h m v) : Below w.heap.size w W := R.1
theorem Rin.bH {w W : World} {h m v : Nat → Nat} (R : Rin w W h m v) : BlkN W 44 w.heap.size 8 h := R.2.1
theorem Rin.bM {w W : World} {h m v : Nat → Nat} (R : Rin w W h m v) : BlkN W 51 (w.heap.size + 1) 16 m := R.2.2.1
theorem Rin.bR {w W : World} {h m v : Nat → Nat} (R : Rin w W h m v) : BlkN W 44 (w.heap.size + 1 + 1) 8 (fun _ => 0) := R.2.2.2.1
theorem Rin.bV {w W : World} {h m v : Nat → Nat} (R : Rin w W h m v) : BlkN W 50 (w.heap.size + 1 + 1 + 1) 16 v := R.2.2.2.2

theorem not6 : bits BinOp.xor IntKind.u64 (if IntKind.u64.signed = true then -1 else IntKind.u64.max) ((ivW 6 : Nat) : Int) = ((18446744073709551616 - 1 - ivW 6 : Nat) : Int) := by kernel_rfl
theorem Rin.setV {w W : World} {h m v : Nat → Nat} (R : Rin w W h m v) (i x : Nat) (hi : i < 16) : Rin w (W.setCell ⟨w.heap.size + 1 + 1 + 1, i, none⟩ (.int .u64 ((x : Nat) : Int))) h m (fun j => if j = i then x else v j) :=
  Rin.mk (R.below.setCell (by dsimp only; omega) _) (R.bH.other (by dsimp only; omega) _) (R.bM.other (by dsimp only; omega) _) (R.bR.other (by dsimp only; omega) _) (R.bV.set i hi x)
theorem Rin.drew {w W : World} {h m v : Nat → Nat} (R : Rin w W h m v) : Rin w W.drew h m v := Rin.mk (R.below.drew) (R.bH) (R.bM) (R.bR) (R.bV)
theorem Rin.congr {w W : World} {h m v u : Nat → Nat} (R : Rin w W h m v) (hu : ∀ i, i < 16 → u i = v i) : Rin w W h m u := Rin.mk (R.below) (R.bH) (R.bM) (R.bR) (R.bV.congr hu)
theorem Rin.step {w W W' : World} {h m v : Nat → Nat} (R : Rin w W h m v) (hb : Below W.heap.size W W') : Rin w W' h m v :=
  Rin.mk (bStep R.below hb) (R.bH.belowAll hb) (R.bM.belowAll hb) (R.bR.belowAll hb) (R.bV.belowAll hb)
/-- Four of v's words mixed. -/
theorem Rin.mix {w W : World} {h m v : Nat → Nat} (R : Rin w W h m v) (a b c d x y : Nat) (ha : a < 16) (hb : b < 16) (hc : c < 16) (hd : d < 16) (ab : a ≠ b) (ac : a ≠ c) (ad : a ≠ d) (bc : b ≠ c) (bd : b ≠ d) (cd : c ≠ d) :
    Rin w ((((W.setCell ⟨w.heap.size + 1 + 1 + 1, a, none⟩ (.int .u64 ((mixA (v a) (v b) (v c) (v d) x y : Nat) : Int))).setCell ⟨w.heap.size + 1 + 1 + 1, b, none⟩ (.int .u64 ((mixB (v a) (v b) (v c) (v d) x y : Nat) : Int))).setCell ⟨w.heap.size + 1 + 1 + 1, c, none⟩ (.int .u64 ((mixC (v a) (v b) (v c) (v d) x y : Nat) : Int))).setCell ⟨w.heap.size + 1 + 1 + 1, d, none⟩ (.int .u64 ((mixD (v a) (v b) (v c) (v d) x y : Nat) : Int))) h m (mixAt a b c d x y v) :=
  Rin.mk (bSetAt4 R.below (by omega) _ _ _ _ _ _ _ _) (R.bH.other4 (by omega) _ _ _ _ _ _ _ _) (R.bM.other4 (by omega) _ _ _ _ _ _ _ _) (R.bR.other4 (by omega) _ _ _ _ _ _ _ _) (R.bV.mix a b c d x y ha hb hc hd ab ac ad bc bd cd)

set_option maxHeartbeats 16000000 in
set_option maxRecDepth 20000 in
theorem compress_true (h m : Nat → Nat) (t : Nat) (hh : ∀ i, h i < 18446744073709551616) (ht : t < 18446744073709551616) (w : World) (hg : GlobB w) :
    Calls Tryd.prog 19 #[.agg #[.int .u64 ((h 0 : Nat) : Int), .int .u64 ((h 1 : Nat) : Int), .int .u64 ((h 2 : Nat) : Int), .int .u64 ((h 3 : Nat) : Int), .int .u64 ((h 4 : Nat) : Int), .int .u64 ((h 5 : Nat) : Int), .int .u64 ((h 6 : Nat) : Int), .int .u64 ((h 7 : Nat) : Int)], .agg #[.int .u64 ((m 0 : Nat) : Int), .int .u64 ((m 1 : Nat) : Int), .int .u64 ((m 2 : Nat) : Int), .int .u64 ((m 3 : Nat) : Int), .int .u64 ((m 4 : Nat) : Int), .int .u64 ((m 5 : Nat) : Int), .int .u64 ((m 6 : Nat) : Int), .int .u64 ((m 7 : Nat) : Int), .int .u64 ((m 8 : Nat) : Int), .int .u64 ((m 9 : Nat) : Int), .int .u64 ((m 10 : Nat) : Int), .int .u64 ((m 11 : Nat) : Int), .int .u64 ((m 12 : Nat) : Int), .int .u64 ((m 13 : Nat) : Int), .int .u64 ((m 14 : Nat) : Int), .int .u64 ((m 15 : Nat) : Int)], .int .u64 (t : Int), .bool true] w fun e w' => e = .returned (.agg #[.int .u64 ((comp h m t true 0 : Nat) : Int), .int .u64 ((comp h m t true 1 : Nat) : Int), .int .u64 ((comp h m t true 2 : Nat) : Int), .int .u64 ((comp h m t true 3 : Nat) : Int), .int .u64 ((comp h m t true 4 : Nat) : Int), .int .u64 ((comp h m t true 5 : Nat) : Int), .int .u64 ((comp h m t true 6 : Nat) : Int), .int .u64 ((comp h m t true 7 : Nat) : Int)]) ∧ Below w.heap.size w w' := by
  have HG : Hid (GlobB w) := hg; have HH := (show Hid _ from hh); have HT := (show Hid _ from ht)
  have HB : Hid (∀ i, beg h t true i < 18446744073709551616) := beg_lt h t true hh ht
  clear hg hh ht
  go_enter Tryd.func19, Tryd.ntmps19
  go_upto_region 2 with fail
  obtain ⟨w0, hw0⟩ : ∃ w0 : World, w0 = (((w.alloc (.cells #[.int .u64 ((h 0 : Nat) : Int), .int .u64 ((h 1 : Nat) : Int), .int .u64 ((h 2 : Nat) : Int), .int .u64 ((h 3 : Nat) : Int), .int .u64 ((h 4 : Nat) : Int), .int .u64 ((h 5 : Nat) : Int), .int .u64 ((h 6 : Nat) : Int), .int .u64 ((h 7 : Nat) : Int)] 44)).alloc (.cells #[.int .u64 ((m 0 : Nat) : Int), .int .u64 ((m 1 : Nat) : Int), .int .u64 ((m 2 : Nat) : Int), .int .u64 ((m 3 : Nat) : Int), .int .u64 ((m 4 : Nat) : Int), .int .u64 ((m 5 : Nat) : Int), .int .u64 ((m 6 : Nat) : Int), .int .u64 ((m 7 : Nat) : Int), .int .u64 ((m 8 : Nat) : Int), .int .u64 ((m 9 : Nat) : Int), .int .u64 ((m 10 : Nat) : Int), .int .u64 ((m 11 : Nat) : Int), .int .u64 ((m 12 : Nat) : Int), .int .u64 ((m 13 : Nat) : Int), .int .u64 ((m 14 : Nat) : Int), .int .u64 ((m 15 : Nat) : Int)] 51)).alloc (.cells #[.int .u64 0, .int .u64 0, .int .u64 0, .int .u64 0, .int .u64 0, .int .u64 0, .int .u64 0, .int .u64 0] 44)).alloc (.cells #[.int .u64 0, .int .u64 0, .int .u64 0, .int .u64 0, .int .u64 0, .int .u64 0, .int .u64 0, .int .u64 0, .int .u64 0, .int .u64 0, .int .u64 0, .int .u64 0, .int .u64 0, .int .u64 0, .int .u64 0, .int .u64 0] 50) := ⟨_, rfl⟩
  have R0 : Rin w w0 h m (fun _ => 0) := by
    rw [hw0]
    refine Rin.mk (bAlloc (bAlloc (bAlloc ((Below.refl _ _).alloc (Nat.le_refl _) _) _) _) _) ?_ ?_ ?_ ?_
    · exact (((BlkN.newAt _ _ _ 8 h _ rfl rfl (case8 rfl rfl rfl rfl rfl rfl rfl rfl)).alloc _).alloc _).alloc _
    · exact ((BlkN.newAt _ _ _ 16 m _ (by simp) rfl (case16 rfl rfl rfl rfl rfl rfl rfl rfl rfl rfl rfl rfl rfl rfl rfl rfl)).alloc _).alloc _
    · exact (BlkN.newAt _ _ _ 8 (fun _ => 0) _ (by simp) rfl (case8 rfl rfl rfl rfl rfl rfl rfl rfl)).alloc _
    · exact BlkN.newAt _ _ _ 16 (fun _ => 0) _ (by simp) rfl (case16 rfl rfl rfl rfl rfl rfl rfl rfl rfl rfl rfl rfl rfl rfl rfl rfl)
  rw [← hw0]
  clear hw0
  go_wp2
  go_loopw [14] (fun iv wr => ∃ k : Nat, iv = .int .i64 (k : Int) ∧ k ≤ 8 ∧ Rin w wr h m (fun i => if i < 8 then (if i < k then h i else 0) else (if i < 8 + k then ivW (i - 8) else 0))) (fun iv _ => 8 - (intOf iv).toNat)
  case atStart => exact ⟨0, rfl, by decide, Rin.mk R0.below R0.bH R0.bM R0.bR (R0.bV.congr (fun i _ => by split <;> simp <;> omega))⟩
  case round =>
    obtain ⟨k, rfl, hk, R⟩ := hrel
    clear R0
    by_cases hlt : k < 8
    · have hki : (k : Int) < 8 := by omega
      have c0 := (HG.out.below R.below).2.1 k hlt
      have cH := R.bH.cell k hlt
      have fV := R.bV.frozen
      have cV := R.bV.cell k (by omega)
      have cV8 := R.bV.cell (k + 8) (by omega)
      obtain ⟨x, ex⟩ : ∃ x, x = h k := ⟨_, rfl⟩
      obtain ⟨y, ey⟩ : ∃ y, y = ivW k := ⟨_, rfl⟩
      rw [← ex] at cH
      rw [← ey] at c0
      have EX := (show Hid _ from ex); have EY := (show Hid _ from ey)
      clear ex ey
      go_wp2_with fail
      go_region
      go_wp2
      go_roundw
      case measure => simp [intOf]; omega
      case rel =>
        refine ⟨k + 1, by go_num, by omega, Rin.drew (((R.setV k x (by omega)).setV (k + 8) y (by omega)).congr ?_)⟩
        intro i _
        rw [EX.out, EY.out]
        by_cases h1 : i = k + 8
        · subst h1; rw [if_neg (by omega), if_pos (by omega), if_pos rfl, Nat.add_sub_cancel]
        · rw [if_neg h1]
          by_cases h2 : i = k
          · subst h2; rw [if_pos (by omega), if_pos (by omega), if_pos rfl]
          · rw [if_neg h2]
            by_cases h3 : i < 8
            · rw [if_pos h3, if_pos h3]
              by_cases h4 : i < k
              · rw [if_pos h4, if_pos (by omega)]
              · rw [if_neg h4, if_neg (by omega)]
            · rw [if_neg h3, if_neg h3]
              by_cases h4 : i < 8 + k
              · rw [if_pos h4, if_pos (by omega)]
              · rw [if_neg h4, if_neg (by omega)]
    · have hki : ¬ (k : Int) < 8 := by omega
      have hk8 : k = 8 := by omega
      subst hk8
      clear hlt hk
      have R1 := R.congr (u := fun i => if i < 8 then h i else ivW (i - 8)) (fun i hi => by
        by_cases h3 : i < 8
        · rw [if_pos h3, if_pos h3, if_pos h3]
        · rw [if_neg h3, if_neg h3, if_pos (by omega)])
      clear R
      have c12 : wr.cell? ⟨w.heap.size + 1 + 1 + 1, 12, none⟩ = some (.int .u64 ((ivW 4 : Nat) : Int)) := R1.bV.cell 12 (by decide)
      have fV := R1.bV.frozen
      have X12 := xor_run (ivW 4) t (ivW_lt 4) HT.out
      obtain ⟨i4, e4⟩ : ∃ i4, i4 = ivW 4 := ⟨_, rfl⟩
      rw [← e4] at c12 X12
      obtain ⟨y4, ey4⟩ : ∃ y4, y4 = i4 ^^^ t := ⟨_, rfl⟩
      rw [← ey4] at X12
      have E4 : Hid (y4 = ivW 4 ^^^ t) := by show _ = _; rw [ey4, e4]
      clear ey4 e4 hki
      go_upto_region 8 with fail
      have R2 := R1.setV 12 y4 (by decide)
      obtain ⟨w2, hw2⟩ : ∃ w2 : World, w2 = wr.setCell ⟨w.heap.size + 1 + 1 + 1, 12, none⟩ (.int .u64 (y4 : Int)) := ⟨_, rfl⟩
      rw [← hw2] at R2 ⊢
      clear hw2 R1 c12 fV X12
      have c14 : w2.cell? ⟨w.heap.size + 1 + 1 + 1, 14, none⟩ = some (.int .u64 ((ivW 6 : Nat) : Int)) := R2.bV.cell 14 (by decide)
      have fV := R2.bV.frozen
      have N14 : bits BinOp.xor IntKind.u64 (if IntKind.u64.signed = true then -1 else IntKind.u64.max) ((ivW 6 : Nat) : Int) = ((18446744073709551616 - 1 - ivW 6 : Nat) : Int) := not6
      obtain ⟨i6, e6⟩ : ∃ i6, i6 = ivW 6 := ⟨_, rfl⟩
      rw [← e6] at c14 N14
      obtain ⟨y6, ey6⟩ : ∃ y6, y6 = 18446744073709551616 - 1 - i6 := ⟨_, rfl⟩
      rw [← ey6] at N14
      have E6 : Hid (y6 = 18446744073709551616 - 1 - ivW 6) := by show _ = _; rw [ey6, e6]
      clear ey6 e6
      have R2' := R2.congr (u := beg h t false) (fun i _ => by
        unfold beg
        rw [E4.out]
        by_cases h1 : i = 12
        · subst h1; rfl
        · by_cases h2 : i < 8
          · simp [h2, h1]
          · simp [h2, h1])
      clear R2
      go_upto_region 10 with fail
      have R3 := (R2'.setV 14 y6 (by decide)).congr (u := beg h t true) (fun i hi => by
        by_cases h1 : i = 14
        · subst h1; rw [E6.out]; unfold beg; simp only [if_true, and_self, show ¬ (14 : Nat) < 8 from by decide, show ¬ (14 : Nat) = 12 from by decide, if_false]
        · rw [if_neg h1]
          unfold beg
          simp [h1])
      obtain ⟨w3, hw3⟩ : ∃ w3 : World, w3 = w2.setCell ⟨w.heap.size + 1 + 1 + 1, 14, none⟩ (.int .u64 (y6 : Int)) := ⟨_, rfl⟩
      rw [← hw3] at R3 ⊢
      clear hw3 R2'
      clear c14 fV N14 E6
      obtain ⟨v0, ev0⟩ : ∃ v0, v0 = beg h t true := ⟨_, rfl⟩
      have HV0 : Hid (∀ i, v0 i < 18446744073709551616) := by rw [ev0]; exact HB
      rw [← ev0] at R3
      have EV0 := (show Hid _ from ev0)
      clear ev0 E4
      go_wp2
      go_loopw [39] (fun rv wr => ∃ k : Nat, rv = .int .i64 (k : Int) ∧ k ≤ 12 ∧ Rin w wr h m (rnds m v0 k)) (fun rv _ => 12 - (intOf rv).toNat)
      case atStart => exact ⟨0, rfl, by decide, R3⟩
      case round =>
        obtain ⟨k, rfl, hk, R⟩ := hrel
        by_cases hlt : k < 12
        · have hki : (k : Int) < 12 := by omega
          have cM := R.bM.cell
          have C := inOrder_any m k hlt wr (HG.out.below R.below)
          have HVk : Hid (∀ i, rnds m v0 k i < 18446744073709551616) := rnds_lt m v0 HV0.out k
          have HC := (show Hid _ from fun (_ : Unit) => C)
          clear C
          go_wp2_with fail
          refine (HC.out ()).mono ?_
          rintro e w1 ⟨rfl, hb1⟩
          have R1 := R.step hb1
          clear R cM HC hb1
          go_upto_region 14 with fail
          have R0' := R1.step ((Below.refl _ _).alloc (Nat.le_refl _) (.cells #[.int .u64 ((ord m k 0 : Nat) : Int), .int .u64 ((ord m k 1 : Nat) : Int), .int .u64 ((ord m k 2 : Nat) : Int), .int .u64 ((ord m k 3 : Nat) : Int), .int .u64 ((ord m k 4 : Nat) : Int), .int .u64 ((ord m k 5 : Nat) : Int), .int .u64 ((ord m k 6 : Nat) : Int), .int .u64 ((ord m k 7 : Nat) : Int), .int .u64 ((ord m k 8 : Nat) : Int), .int .u64 ((ord m k 9 : Nat) : Int), .int .u64 ((ord m k 10 : Nat) : Int), .int .u64 ((ord m k 11 : Nat) : Int), .int .u64 ((ord m k 12 : Nat) : Int), .int .u64 ((ord m k 13 : Nat) : Int), .int .u64 ((ord m k 14 : Nat) : Int), .int .u64 ((ord m k 15 : Nat) : Int)] 51))
          have P0 : BlkN (w1.alloc (.cells #[.int .u64 ((ord m k 0 : Nat) : Int), .int .u64 ((ord m k 1 : Nat) : Int), .int .u64 ((ord m k 2 : Nat) : Int), .int .u64 ((ord m k 3 : Nat) : Int), .int .u64 ((ord m k 4 : Nat) : Int), .int .u64 ((ord m k 5 : Nat) : Int), .int .u64 ((ord m k 6 : Nat) : Int), .int .u64 ((ord m k 7 : Nat) : Int), .int .u64 ((ord m k 8 : Nat) : Int), .int .u64 ((ord m k 9 : Nat) : Int), .int .u64 ((ord m k 10 : Nat) : Int), .int .u64 ((ord m k 11 : Nat) : Int), .int .u64 ((ord m k 12 : Nat) : Int), .int .u64 ((ord m k 13 : Nat) : Int), .int .u64 ((ord m k 14 : Nat) : Int), .int .u64 ((ord m k 15 : Nat) : Int)] 51)) 51 w1.heap.size 16 (ord m k) := BlkN.newAt _ _ _ 16 (ord m k) _ rfl rfl (case16 rfl rfl rfl rfl rfl rfl rfl rfl rfl rfl rfl rfl rfl rfl rfl rfl)
          have hpb : w.heap.size + 1 + 1 + 1 < w1.heap.size := R1.bV.lt
          obtain ⟨v0', ev0'⟩ : ∃ x, x = rnds m v0 k := ⟨_, rfl⟩
          obtain ⟨p, ep⟩ : ∃ x, x = ord m k := ⟨_, rfl⟩
          obtain ⟨q0, hq0⟩ : ∃ q : World, q = w1.alloc (.cells #[.int .u64 ((ord m k 0 : Nat) : Int), .int .u64 ((ord m k 1 : Nat) : Int), .int .u64 ((ord m k 2 : Nat) : Int), .int .u64 ((ord m k 3 : Nat) : Int), .int .u64 ((ord m k 4 : Nat) : Int), .int .u64 ((ord m k 5 : Nat) : Int), .int .u64 ((ord m k 6 : Nat) : Int), .int .u64 ((ord m k 7 : Nat) : Int), .int .u64 ((ord m k 8 : Nat) : Int), .int .u64 ((ord m k 9 : Nat) : Int), .int .u64 ((ord m k 10 : Nat) : Int), .int .u64 ((ord m k 11 : Nat) : Int), .int .u64 ((ord m k 12 : Nat) : Int), .int .u64 ((ord m k 13 : Nat) : Int), .int .u64 ((ord m k 14 : Nat) : Int), .int .u64 ((ord m k 15 : Nat) : Int)] 51) := ⟨_, rfl⟩
          rw [← hq0] at P0 R0' ⊢
          rw [← ep] at P0 ⊢
          rw [← ev0'] at R0' HVk
          have EVZ := (show Hid _ from ev0'); have EP := (show Hid _ from ep)
          clear hq0 R1 ev0' ep
          have qa := R0'.bV.cell 0 (by decide); have qb := R0'.bV.cell 4 (by decide); have qc := R0'.bV.cell 8 (by decide); have qd := R0'.bV.cell 12 (by decide)
          have px := P0.cell 0 (by decide); have py := P0.cell 1 (by decide)
          have fV := R0'.bV.frozen
          have M := fun w => mix_any (v0' 0) (v0' 4) (v0' 8) (v0' 12) (p 0) (p 1) (HVk.out 4) (HVk.out 12) w
          have HM := (show Hid _ from fun (_ : Unit) => M)
          clear M
          go_wp2_with fail
          refine (HM.out () _).mono ?_
          rintro e wz ⟨rfl, hwz⟩
          rw [hwz]
          clear hwz
          clear HM
          obtain ⟨x0, hx0⟩ : ∃ x, x = mixA (v0' 0) (v0' 4) (v0' 8) (v0' 12) (p 0) (p 1) := ⟨_, rfl⟩
          obtain ⟨y0, hy0⟩ : ∃ x, x = mixB (v0' 0) (v0' 4) (v0' 8) (v0' 12) (p 0) (p 1) := ⟨_, rfl⟩
          obtain ⟨z0, hz0⟩ : ∃ x, x = mixC (v0' 0) (v0' 4) (v0' 8) (v0' 12) (p 0) (p 1) := ⟨_, rfl⟩
          obtain ⟨u0', hu0⟩ : ∃ x, x = mixD (v0' 0) (v0' 4) (v0' 8) (v0' 12) (p 0) (p 1) := ⟨_, rfl⟩
          have R1 := R0'.mix 0 4 8 12 (p 0) (p 1) (by decide) (by decide) (by decide) (by decide) (by decide) (by decide) (by decide) (by decide) (by decide) (by decide)
          have P1 := P0.other4 (Nat.ne_of_gt hpb) 0 4 8 12 (.int .u64 (x0 : Int)) (.int .u64 (y0 : Int)) (.int .u64 (z0 : Int)) (.int .u64 (u0' : Int))
          rw [← hx0, ← hy0, ← hz0, ← hu0] at R1 ⊢
          obtain ⟨v1, ev1⟩ : ∃ x, x = mixAt 0 4 8 12 (p 0) (p 1) v0' := ⟨_, rfl⟩
          rw [← ev1] at R1
          have HV1 : Hid (∀ i, v1 i < 18446744073709551616) := by rw [ev1]; exact mixAt_lt _ _ _ _ _ _ _ HVk.out
          have EV1' := (show Hid _ from ev1)
          clear hx0 hy0 hz0 hu0 ev1 HVk
          go_upto_region 15 with fail
          obtain ⟨q1, hq1⟩ : ∃ q : World, q = (((q0.setCell ⟨w.heap.size + 1 + 1 + 1, 0, none⟩ (.int .u64 (x0 : Int))).setCell ⟨w.heap.size + 1 + 1 + 1, 4, none⟩ (.int .u64 (y0 : Int))).setCell ⟨w.heap.size + 1 + 1 + 1, 8, none⟩ (.int .u64 (z0 : Int))).setCell ⟨w.heap.size + 1 + 1 + 1, 12, none⟩ (.int .u64 (u0' : Int)) := ⟨_, rfl⟩
          rw [← hq1] at R1 P1 ⊢
          clear hq1 R0' P0 qa qb qc qd px py fV
          have qa := R1.bV.cell 1 (by decide); have qb := R1.bV.cell 5 (by decide); have qc := R1.bV.cell 9 (by decide); have qd := R1.bV.cell 13 (by decide)
          have px := P1.cell 2 (by decide); have py := P1.cell 3 (by decide)
          have fV := R1.bV.frozen
          have M := fun w => mix_any (v1 1) (v1 5) (v1 9) (v1 13) (p 2) (p 3) (HV1.out 5) (HV1.out 13) w
          have HM := (show Hid _ from fun (_ : Unit) => M)
          clear M
          go_wp2_with fail
          refine (HM.out () _).mono ?_
          rintro e wz ⟨rfl, hwz⟩
          rw [hwz]
          clear hwz
          clear HM
          obtain ⟨x1, hx1⟩ : ∃ x, x = mixA (v1 1) (v1 5) (v1 9) (v1 13) (p 2) (p 3) := ⟨_, rfl⟩
          obtain ⟨y1, hy1⟩ : ∃ x, x = mixB (v1 1) (v1 5) (v1 9) (v1 13) (p 2) (p 3) := ⟨_, rfl⟩
          obtain ⟨z1, hz1⟩ : ∃ x, x = mixC (v1 1) (v1 5) (v1 9) (v1 13) (p 2) (p 3) := ⟨_, rfl⟩
          obtain ⟨u1', hu1⟩ : ∃ x, x = mixD (v1 1) (v1 5) (v1 9) (v1 13) (p 2) (p 3) := ⟨_, rfl⟩
          have R2 := R1.mix 1 5 9 13 (p 2) (p 3) (by decide) (by decide) (by decide) (by decide) (by decide) (by decide) (by decide) (by decide) (by decide) (by decide)
          have P2 := P1.other4 (Nat.ne_of_gt hpb) 1 5 9 13 (.int .u64 (x1 : Int)) (.int .u64 (y1 : Int)) (.int .u64 (z1 : Int)) (.int .u64 (u1' : Int))
          rw [← hx1, ← hy1, ← hz1, ← hu1] at R2 ⊢
          obtain ⟨v2, ev2⟩ : ∃ x, x = mixAt 1 5 9 13 (p 2) (p 3) v1 := ⟨_, rfl⟩
          rw [← ev2] at R2
          have HV2 : Hid (∀ i, v2 i < 18446744073709551616) := by rw [ev2]; exact mixAt_lt _ _ _ _ _ _ _ HV1.out
          have EV2' := (show Hid _ from ev2)
          clear hx1 hy1 hz1 hu1 ev2 HV1
          go_upto_region 16 with fail
          obtain ⟨q2, hq2⟩ : ∃ q : World, q = (((q1.setCell ⟨w.heap.size + 1 + 1 + 1, 1, none⟩ (.int .u64 (x1 : Int))).setCell ⟨w.heap.size + 1 + 1 + 1, 5, none⟩ (.int .u64 (y1 : Int))).setCell ⟨w.heap.size + 1 + 1 + 1, 9, none⟩ (.int .u64 (z1 : Int))).setCell ⟨w.heap.size + 1 + 1 + 1, 13, none⟩ (.int .u64 (u1' : Int)) := ⟨_, rfl⟩
          rw [← hq2] at R2 P2 ⊢
          clear hq2 R1 P1 qa qb qc qd px py fV
          have qa := R2.bV.cell 2 (by decide); have qb := R2.bV.cell 6 (by decide); have qc := R2.bV.cell 10 (by decide); have qd := R2.bV.cell 14 (by decide)
          have px := P2.cell 4 (by decide); have py := P2.cell 5 (by decide)
          have fV := R2.bV.frozen
          have M := fun w => mix_any (v2 2) (v2 6) (v2 10) (v2 14) (p 4) (p 5) (HV2.out 6) (HV2.out 14) w
          have HM := (show Hid _ from fun (_ : Unit) => M)
          clear M
          go_wp2_with fail
          refine (HM.out () _).mono ?_
          rintro e wz ⟨rfl, hwz⟩
          rw [hwz]
          clear hwz
          clear HM
          obtain ⟨x2, hx2⟩ : ∃ x, x = mixA (v2 2) (v2 6) (v2 10) (v2 14) (p 4) (p 5) := ⟨_, rfl⟩
          obtain ⟨y2, hy2⟩ : ∃ x, x = mixB (v2 2) (v2 6) (v2 10) (v2 14) (p 4) (p 5) := ⟨_, rfl⟩
          obtain ⟨z2, hz2⟩ : ∃ x, x = mixC (v2 2) (v2 6) (v2 10) (v2 14) (p 4) (p 5) := ⟨_, rfl⟩
          obtain ⟨u2', hu2⟩ : ∃ x, x = mixD (v2 2) (v2 6) (v2 10) (v2 14) (p 4) (p 5) := ⟨_, rfl⟩
          have R3 := R2.mix 2 6 10 14 (p 4) (p 5) (by decide) (by decide) (by decide) (by decide) (by decide) (by decide) (by decide) (by decide) (by decide) (by decide)
          have P3 := P2.other4 (Nat.ne_of_gt hpb) 2 6 10 14 (.int .u64 (x2 : Int)) (.int .u64 (y2 : Int)) (.int .u64 (z2 : Int)) (.int .u64 (u2' : Int))
          rw [← hx2, ← hy2, ← hz2, ← hu2] at R3 ⊢
          obtain ⟨v3, ev3⟩ : ∃ x, x = mixAt 2 6 10 14 (p 4) (p 5) v2 := ⟨_, rfl⟩
          rw [← ev3] at R3
          have HV3 : Hid (∀ i, v3 i < 18446744073709551616) := by rw [ev3]; exact mixAt_lt _ _ _ _ _ _ _ HV2.out
          have EV3' := (show Hid _ from ev3)
          clear hx2 hy2 hz2 hu2 ev3 HV2
          go_upto_region 17 with fail
          obtain ⟨q3, hq3⟩ : ∃ q : World, q = (((q2.setCell ⟨w.heap.size + 1 + 1 + 1, 2, none⟩ (.int .u64 (x2 : Int))).setCell ⟨w.heap.size + 1 + 1 + 1, 6, none⟩ (.int .u64 (y2 : Int))).setCell ⟨w.heap.size + 1 + 1 + 1, 10, none⟩ (.int .u64 (z2 : Int))).setCell ⟨w.heap.size + 1 + 1 + 1, 14, none⟩ (.int .u64 (u2' : Int)) := ⟨_, rfl⟩
          rw [← hq3] at R3 P3 ⊢
          clear hq3 R2 P2 qa qb qc qd px py fV
          have qa := R3.bV.cell 3 (by decide); have qb := R3.bV.cell 7 (by decide); have qc := R3.bV.cell 11 (by decide); have qd := R3.bV.cell 15 (by decide)
          have px := P3.cell 6 (by decide); have py := P3.cell 7 (by decide)
          have fV := R3.bV.frozen
          have M := fun w => mix_any (v3 3) (v3 7) (v3 11) (v3 15) (p 6) (p 7) (HV3.out 7) (HV3.out 15) w
          have HM := (show Hid _ from fun (_ : Unit) => M)
          clear M
          go_wp2_with fail
          refine (HM.out () _).mono ?_
          rintro e wz ⟨rfl, hwz⟩
          rw [hwz]
          clear hwz
          clear HM
          obtain ⟨x3, hx3⟩ : ∃ x, x = mixA (v3 3) (v3 7) (v3 11) (v3 15) (p 6) (p 7) := ⟨_, rfl⟩
          obtain ⟨y3, hy3⟩ : ∃ x, x = mixB (v3 3) (v3 7) (v3 11) (v3 15) (p 6) (p 7) := ⟨_, rfl⟩
          obtain ⟨z3, hz3⟩ : ∃ x, x = mixC (v3 3) (v3 7) (v3 11) (v3 15) (p 6) (p 7) := ⟨_, rfl⟩
          obtain ⟨u3', hu3⟩ : ∃ x, x = mixD (v3 3) (v3 7) (v3 11) (v3 15) (p 6) (p 7) := ⟨_, rfl⟩
          have R4 := R3.mix 3 7 11 15 (p 6) (p 7) (by decide) (by decide) (by decide) (by decide) (by decide) (by decide) (by decide) (by decide) (by decide) (by decide)
          have P4 := P3.other4 (Nat.ne_of_gt hpb) 3 7 11 15 (.int .u64 (x3 : Int)) (.int .u64 (y3 : Int)) (.int .u64 (z3 : Int)) (.int .u64 (u3' : Int))
          rw [← hx3, ← hy3, ← hz3, ← hu3] at R4 ⊢
          obtain ⟨v4, ev4⟩ : ∃ x, x = mixAt 3 7 11 15 (p 6) (p 7) v3 := ⟨_, rfl⟩
          rw [← ev4] at R4
          have HV4 : Hid (∀ i, v4 i < 18446744073709551616) := by rw [ev4]; exact mixAt_lt _ _ _ _ _ _ _ HV3.out
          have EV4' := (show Hid _ from ev4)
          clear hx3 hy3 hz3 hu3 ev4 HV3
          go_upto_region 18 with fail
          obtain ⟨q4, hq4⟩ : ∃ q : World, q = (((q3.setCell ⟨w.heap.size + 1 + 1 + 1, 3, none⟩ (.int .u64 (x3 : Int))).setCell ⟨w.heap.size + 1 + 1 + 1, 7, none⟩ (.int .u64 (y3 : Int))).setCell ⟨w.heap.size + 1 + 1 + 1, 11, none⟩ (.int .u64 (z3 : Int))).setCell ⟨w.heap.size + 1 + 1 + 1, 15, none⟩ (.int .u64 (u3' : Int)) := ⟨_, rfl⟩
          rw [← hq4] at R4 P4 ⊢
          clear hq4 R3 P3 qa qb qc qd px py fV
          have qa := R4.bV.cell 0 (by decide); have qb := R4.bV.cell 5 (by decide); have qc := R4.bV.cell 10 (by decide); have qd := R4.bV.cell 15 (by decide)
          have px := P4.cell 8 (by decide); have py := P4.cell 9 (by decide)
          have fV := R4.bV.frozen
          have M := fun w => mix_any (v4 0) (v4 5) (v4 10) (v4 15) (p 8) (p 9) (HV4.out 5) (HV4.out 15) w
          have HM := (show Hid _ from fun (_ : Unit) => M)
          clear M
          go_wp2_with fail
          refine (HM.out () _).mono ?_
          rintro e wz ⟨rfl, hwz⟩
          rw [hwz]
          clear hwz
          clear HM
          obtain ⟨x4, hx4⟩ : ∃ x, x = mixA (v4 0) (v4 5) (v4 10) (v4 15) (p 8) (p 9) := ⟨_, rfl⟩
          obtain ⟨y4, hy4⟩ : ∃ x, x = mixB (v4 0) (v4 5) (v4 10) (v4 15) (p 8) (p 9) := ⟨_, rfl⟩
          obtain ⟨z4, hz4⟩ : ∃ x, x = mixC (v4 0) (v4 5) (v4 10) (v4 15) (p 8) (p 9) := ⟨_, rfl⟩
          obtain ⟨u4', hu4⟩ : ∃ x, x = mixD (v4 0) (v4 5) (v4 10) (v4 15) (p 8) (p 9) := ⟨_, rfl⟩
          have R5 := R4.mix 0 5 10 15 (p 8) (p 9) (by decide) (by decide) (by decide) (by decide) (by decide) (by decide) (by decide) (by decide) (by decide) (by decide)
          have P5 := P4.other4 (Nat.ne_of_gt hpb) 0 5 10 15 (.int .u64 (x4 : Int)) (.int .u64 (y4 : Int)) (.int .u64 (z4 : Int)) (.int .u64 (u4' : Int))
          rw [← hx4, ← hy4, ← hz4, ← hu4] at R5 ⊢
          obtain ⟨v5, ev5⟩ : ∃ x, x = mixAt 0 5 10 15 (p 8) (p 9) v4 := ⟨_, rfl⟩
          rw [← ev5] at R5
          have HV5 : Hid (∀ i, v5 i < 18446744073709551616) := by rw [ev5]; exact mixAt_lt _ _ _ _ _ _ _ HV4.out
          have EV5' := (show Hid _ from ev5)
          clear hx4 hy4 hz4 hu4 ev5 HV4
          go_upto_region 19 with fail
          obtain ⟨q5, hq5⟩ : ∃ q : World, q = (((q4.setCell ⟨w.heap.size + 1 + 1 + 1, 0, none⟩ (.int .u64 (x4 : Int))).setCell ⟨w.heap.size + 1 + 1 + 1, 5, none⟩ (.int .u64 (y4 : Int))).setCell ⟨w.heap.size + 1 + 1 + 1, 10, none⟩ (.int .u64 (z4 : Int))).setCell ⟨w.heap.size + 1 + 1 + 1, 15, none⟩ (.int .u64 (u4' : Int)) := ⟨_, rfl⟩
          rw [← hq5] at R5 P5 ⊢
          clear hq5 R4 P4 qa qb qc qd px py fV
          have qa := R5.bV.cell 1 (by decide); have qb := R5.bV.cell 6 (by decide); have qc := R5.bV.cell 11 (by decide); have qd := R5.bV.cell 12 (by decide)
          have px := P5.cell 10 (by decide); have py := P5.cell 11 (by decide)
          have fV := R5.bV.frozen
          have M := fun w => mix_any (v5 1) (v5 6) (v5 11) (v5 12) (p 10) (p 11) (HV5.out 6) (HV5.out 12) w
          have HM := (show Hid _ from fun (_ : Unit) => M)
          clear M
          go_wp2_with fail
          refine (HM.out () _).mono ?_
          rintro e wz ⟨rfl, hwz⟩
          rw [hwz]
          clear hwz
          clear HM
          obtain ⟨x5, hx5⟩ : ∃ x, x = mixA (v5 1) (v5 6) (v5 11) (v5 12) (p 10) (p 11) := ⟨_, rfl⟩
          obtain ⟨y5, hy5⟩ : ∃ x, x = mixB (v5 1) (v5 6) (v5 11) (v5 12) (p 10) (p 11) := ⟨_, rfl⟩
          obtain ⟨z5, hz5⟩ : ∃ x, x = mixC (v5 1) (v5 6) (v5 11) (v5 12) (p 10) (p 11) := ⟨_, rfl⟩
          obtain ⟨u5', hu5⟩ : ∃ x, x = mixD (v5 1) (v5 6) (v5 11) (v5 12) (p 10) (p 11) := ⟨_, rfl⟩
          have R6 := R5.mix 1 6 11 12 (p 10) (p 11) (by decide) (by decide) (by decide) (by decide) (by decide) (by decide) (by decide) (by decide) (by decide) (by decide)
          have P6 := P5.other4 (Nat.ne_of_gt hpb) 1 6 11 12 (.int .u64 (x5 : Int)) (.int .u64 (y5 : Int)) (.int .u64 (z5 : Int)) (.int .u64 (u5' : Int))
          rw [← hx5, ← hy5, ← hz5, ← hu5] at R6 ⊢
          obtain ⟨v6, ev6⟩ : ∃ x, x = mixAt 1 6 11 12 (p 10) (p 11) v5 := ⟨_, rfl⟩
          rw [← ev6] at R6
          have HV6 : Hid (∀ i, v6 i < 18446744073709551616) := by rw [ev6]; exact mixAt_lt _ _ _ _ _ _ _ HV5.out
          have EV6' := (show Hid _ from ev6)
          clear hx5 hy5 hz5 hu5 ev6 HV5
          go_upto_region 20 with fail
          obtain ⟨q6, hq6⟩ : ∃ q : World, q = (((q5.setCell ⟨w.heap.size + 1 + 1 + 1, 1, none⟩ (.int .u64 (x5 : Int))).setCell ⟨w.heap.size + 1 + 1 + 1, 6, none⟩ (.int .u64 (y5 : Int))).setCell ⟨w.heap.size + 1 + 1 + 1, 11, none⟩ (.int .u64 (z5 : Int))).setCell ⟨w.heap.size + 1 + 1 + 1, 12, none⟩ (.int .u64 (u5' : Int)) := ⟨_, rfl⟩
          rw [← hq6] at R6 P6 ⊢
          clear hq6 R5 P5 qa qb qc qd px py fV
          have qa := R6.bV.cell 2 (by decide); have qb := R6.bV.cell 7 (by decide); have qc := R6.bV.cell 8 (by decide); have qd := R6.bV.cell 13 (by decide)
          have px := P6.cell 12 (by decide); have py := P6.cell 13 (by decide)
          have fV := R6.bV.frozen
          have M := fun w => mix_any (v6 2) (v6 7) (v6 8) (v6 13) (p 12) (p 13) (HV6.out 7) (HV6.out 13) w
          have HM := (show Hid _ from fun (_ : Unit) => M)
          clear M
          go_wp2_with fail
          refine (HM.out () _).mono ?_
          rintro e wz ⟨rfl, hwz⟩
          rw [hwz]
          clear hwz
          clear HM
          obtain ⟨x6, hx6⟩ : ∃ x, x = mixA (v6 2) (v6 7) (v6 8) (v6 13) (p 12) (p 13) := ⟨_, rfl⟩
          obtain ⟨y6, hy6⟩ : ∃ x, x = mixB (v6 2) (v6 7) (v6 8) (v6 13) (p 12) (p 13) := ⟨_, rfl⟩
          obtain ⟨z6, hz6⟩ : ∃ x, x = mixC (v6 2) (v6 7) (v6 8) (v6 13) (p 12) (p 13) := ⟨_, rfl⟩
          obtain ⟨u6', hu6⟩ : ∃ x, x = mixD (v6 2) (v6 7) (v6 8) (v6 13) (p 12) (p 13) := ⟨_, rfl⟩
          have R7 := R6.mix 2 7 8 13 (p 12) (p 13) (by decide) (by decide) (by decide) (by decide) (by decide) (by decide) (by decide) (by decide) (by decide) (by decide)
          have P7 := P6.other4 (Nat.ne_of_gt hpb) 2 7 8 13 (.int .u64 (x6 : Int)) (.int .u64 (y6 : Int)) (.int .u64 (z6 : Int)) (.int .u64 (u6' : Int))
          rw [← hx6, ← hy6, ← hz6, ← hu6] at R7 ⊢
          obtain ⟨v7, ev7⟩ : ∃ x, x = mixAt 2 7 8 13 (p 12) (p 13) v6 := ⟨_, rfl⟩
          rw [← ev7] at R7
          have HV7 : Hid (∀ i, v7 i < 18446744073709551616) := by rw [ev7]; exact mixAt_lt _ _ _ _ _ _ _ HV6.out
          have EV7' := (show Hid _ from ev7)
          clear hx6 hy6 hz6 hu6 ev7 HV6
          go_upto_region 21 with fail
          obtain ⟨q7, hq7⟩ : ∃ q : World, q = (((q6.setCell ⟨w.heap.size + 1 + 1 + 1, 2, none⟩ (.int .u64 (x6 : Int))).setCell ⟨w.heap.size + 1 + 1 + 1, 7, none⟩ (.int .u64 (y6 : Int))).setCell ⟨w.heap.size + 1 + 1 + 1, 8, none⟩ (.int .u64 (z6 : Int))).setCell ⟨w.heap.size + 1 + 1 + 1, 13, none⟩ (.int .u64 (u6' : Int)) := ⟨_, rfl⟩
          rw [← hq7] at R7 P7 ⊢
          clear hq7 R6 P6 qa qb qc qd px py fV
          have qa := R7.bV.cell 3 (by decide); have qb := R7.bV.cell 4 (by decide); have qc := R7.bV.cell 9 (by decide); have qd := R7.bV.cell 14 (by decide)
          have px := P7.cell 14 (by decide); have py := P7.cell 15 (by decide)
          have fV := R7.bV.frozen
          have M := fun w => mix_any (v7 3) (v7 4) (v7 9) (v7 14) (p 14) (p 15) (HV7.out 4) (HV7.out 14) w
          have HM := (show Hid _ from fun (_ : Unit) => M)
          clear M
          go_wp2_with fail
          refine (HM.out () _).mono ?_
          rintro e wz ⟨rfl, hwz⟩
          rw [hwz]
          clear hwz
          clear HM
          obtain ⟨x7, hx7⟩ : ∃ x, x = mixA (v7 3) (v7 4) (v7 9) (v7 14) (p 14) (p 15) := ⟨_, rfl⟩
          obtain ⟨y7, hy7⟩ : ∃ x, x = mixB (v7 3) (v7 4) (v7 9) (v7 14) (p 14) (p 15) := ⟨_, rfl⟩
          obtain ⟨z7, hz7⟩ : ∃ x, x = mixC (v7 3) (v7 4) (v7 9) (v7 14) (p 14) (p 15) := ⟨_, rfl⟩
          obtain ⟨u7', hu7⟩ : ∃ x, x = mixD (v7 3) (v7 4) (v7 9) (v7 14) (p 14) (p 15) := ⟨_, rfl⟩
          have R8 := R7.mix 3 4 9 14 (p 14) (p 15) (by decide) (by decide) (by decide) (by decide) (by decide) (by decide) (by decide) (by decide) (by decide) (by decide)
          have P8 := P7.other4 (Nat.ne_of_gt hpb) 3 4 9 14 (.int .u64 (x7 : Int)) (.int .u64 (y7 : Int)) (.int .u64 (z7 : Int)) (.int .u64 (u7' : Int))
          rw [← hx7, ← hy7, ← hz7, ← hu7] at R8 ⊢
          obtain ⟨v8, ev8⟩ : ∃ x, x = mixAt 3 4 9 14 (p 14) (p 15) v7 := ⟨_, rfl⟩
          rw [← ev8] at R8
          have HV8 : Hid (∀ i, v8 i < 18446744073709551616) := by rw [ev8]; exact mixAt_lt _ _ _ _ _ _ _ HV7.out
          have EV8' := (show Hid _ from ev8)
          clear hx7 hy7 hz7 hu7 ev8 HV7
          go_upto_region 22 with fail
          obtain ⟨q8, hq8⟩ : ∃ q : World, q = (((q7.setCell ⟨w.heap.size + 1 + 1 + 1, 3, none⟩ (.int .u64 (x7 : Int))).setCell ⟨w.heap.size + 1 + 1 + 1, 4, none⟩ (.int .u64 (y7 : Int))).setCell ⟨w.heap.size + 1 + 1 + 1, 9, none⟩ (.int .u64 (z7 : Int))).setCell ⟨w.heap.size + 1 + 1 + 1, 14, none⟩ (.int .u64 (u7' : Int)) := ⟨_, rfl⟩
          rw [← hq8] at R8 P8 ⊢
          clear hq8 R7 P7 qa qb qc qd px py fV
          go_wp2
          go_roundw
          case measure => simp [intOf]; omega
          case rel =>
            iterate 185 apply Exists.intro
            refine ⟨?_, rfl⟩
            refine ⟨k + 1, by go_num, by omega, ?_⟩
            have e8 : v8 = rnds m v0 (k + 1) := by
              rw [EV8'.out, EV7'.out, EV6'.out, EV5'.out, EV4'.out, EV3'.out, EV2'.out, EV1'.out, EVZ.out, EP.out]
              rfl
            rw [← e8]
            exact R8
        · have hki : ¬ (k : Int) < 12 := by omega
          have hk12 : k = 12 := by omega
          subst hk12
          clear hlt hk
          go_wp2
          go_loopw [222] (fun iv wr => ∃ k : Nat, iv = .int .i64 (k : Int) ∧ k ≤ 8 ∧ Below w.heap.size w wr ∧ BlkN wr 44 w.heap.size 8 (fun i => if i < k then comp h m t true i else h i) ∧ BlkN wr 44 (w.heap.size + 1 + 1) 8 (fun _ => 0) ∧ BlkN wr 50 (w.heap.size + 1 + 1 + 1) 16 (rnds m v0 12)) (fun iv _ => 8 - (intOf iv).toNat)
          case atStart => exact ⟨0, rfl, by decide, R.below, R.bH.congr (fun i _ => by rw [if_neg (by omega)]), R.bR, R.bV⟩
          case round =>
            obtain ⟨k, rfl, hk, hbr, bH, bR, bV⟩ := hrel
            clear R
            by_cases hlt : k < 8
            · have hki : (k : Int) < 8 := by omega
              have cH := bH.cell k hlt
              rw [if_neg (by omega)] at cH
              have cV := bV.cell k (by omega)
              have cV8 := bV.cell (k + 8) (by omega)
              have fH := bH.frozen
              have X1 := xor_run (rnds m v0 12 k) (rnds m v0 12 (k + 8)) (rnds_lt m v0 HV0.out 12 k) (rnds_lt m v0 HV0.out 12 (k + 8))
              have X2 := xor_run (h k) (rnds m v0 12 k ^^^ rnds m v0 12 (k + 8)) (HH.out k) (xor_lt _ _ (rnds_lt m v0 HV0.out 12 k) (rnds_lt m v0 HV0.out 12 (k + 8)))
              have EC : Hid (h k ^^^ (rnds m v0 12 k ^^^ rnds m v0 12 (k + 8)) = comp h m t true k) := by rw [EV0.out]; rfl
              obtain ⟨a, ea⟩ : ∃ a, a = rnds m v0 12 k := ⟨_, rfl⟩
              obtain ⟨b, eb⟩ : ∃ b, b = rnds m v0 12 (k + 8) := ⟨_, rfl⟩
              obtain ⟨x, ex⟩ : ∃ x, x = h k := ⟨_, rfl⟩
              rw [← ea, ← eb] at X1 X2 EC
              rw [← ex] at X2 EC cH
              rw [← ea] at cV
              rw [← eb] at cV8
              obtain ⟨ab, eab⟩ : ∃ c, c = a ^^^ b := ⟨_, rfl⟩
              rw [← eab] at X1 X2 EC
              obtain ⟨y, ey⟩ : ∃ c, c = x ^^^ ab := ⟨_, rfl⟩
              rw [← ey] at X2 EC
              clear ea eb ex eab ey
              go_wp2_with fail
              go_region
              go_wp2
              go_roundw
              case measure => simp [intOf]; omega
              case rel =>
                refine ⟨k + 1, by go_num, by omega, (hbr.setCell (by dsimp only; omega) _).drew, BlkN.drew ((bH.set k hlt y).congr ?_), (bR.other (by dsimp only; omega) _).drew, (bV.other (by dsimp only; omega) _).drew⟩
                intro i _
                by_cases h1 : i = k
                · subst h1; rw [if_pos (by omega), if_pos rfl, EC.out]
                · rw [if_neg h1]
                  by_cases h2 : i < k
                  · rw [if_pos h2, if_pos (by omega)]
                  · rw [if_neg h2, if_neg (by omega)]
            · have hki : ¬ (k : Int) < 8 := by omega
              have hk8 : k = 8 := by omega
              subst hk8
              clear hlt hk
              have bE := bH.congr (g := comp h m t true) (fun i hi => by rw [if_pos hi])
              have cE := bE.cell; have cr := bR.cell; have fr := bR.frozen
              obtain ⟨z, ez⟩ : ∃ z, z = comp h m t true := ⟨_, rfl⟩
              rw [← ez] at cE
              have EZ := (show Hid _ from ez)
              clear bH bE bV ez
              go_wp2
              refine bodyPost_ret (v := .agg #[.int .u64 ((z 0 : Nat) : Int), .int .u64 ((z 1 : Nat) : Int), .int .u64 ((z 2 : Nat) : Int), .int .u64 ((z 3 : Nat) : Int), .int .u64 ((z 4 : Nat) : Int), .int .u64 ((z 5 : Nat) : Int), .int .u64 ((z 6 : Nat) : Int), .int .u64 ((z 7 : Nat) : Int)]) (by simp [results, Tryd.results19, go_sem, cr]) rfl ⟨by rw [EZ.out], ?_⟩
              repeat (first | with_reducible exact hbr | with_reducible refine Below.setCell ?_ (by first | omega | (simp; omega) | simp) _)

end Go.Proofs.YtolaofoffakddaaDoor
