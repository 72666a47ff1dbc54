/- What the reference's Mul does. -/
import Derived.Test.YtpengmecojkmaaaRef8
namespace Go.Proofs.Ytpengmecojkmaaa
open Go.RowKit

/-- Block b is an array of n ints, f 0 and on. -/
def BlkI (w : World) (t : TypeId) (b n : Nat) (f : Nat → Nat) : Prop :=
  ∃ c : Array Value, w.heap[b]? = some (.cells c t) ∧ c.size = n ∧ ∀ i, i < n → c[i]? = some (.int .i64 ((f i : Nat) : Int))
section
variable {w w' : World} {t : TypeId} {b n : Nat} {f g : Nat → Nat}
theorem BlkI.lt (h : BlkI w t b n f) : b < w.heap.size := by
  obtain ⟨c, hc, _⟩ := h
  rcases Nat.lt_or_ge b w.heap.size with hl | hl
  · exact hl
  · rw [Array.getElem?_eq_none hl] at hc; cases hc
theorem BlkI.cell (h : BlkI w t b n f) : ∀ i, i < n → w.cell? ⟨b, i, none⟩ = some (.int .i64 ((f i : Nat) : Int)) := by
  obtain ⟨c, hc, hs, hf⟩ := h
  intro i hi
  simp [World.cell?, hc, hf i hi]
theorem BlkI.frozen (h : BlkI w t b n f) : ∀ o, w.frozen? ⟨b, o, none⟩ = false := by
  obtain ⟨c, hc, _⟩ := h
  intro o
  simp [World.frozen?, hc]
theorem BlkI.below {m : Nat} (h : BlkI w t b n f) (hb : Below m w w') (hm : b < m) : BlkI w' t b n f := by
  obtain ⟨c, hc, hs⟩ := h
  exact ⟨c, by rw [hb.block b hm]; exact hc, hs⟩
theorem BlkI.belowAll (h : BlkI w t b n f) (hb : Below w.heap.size w w') : BlkI w' t b n f := h.below hb h.lt
theorem BlkI.drew (h : BlkI w t b n f) : BlkI w.drew t b n f := h
theorem BlkI.alloc (h : BlkI w t b n f) (o : Obj) : BlkI (w.alloc o) t b n f := h.below ((Below.refl _ _).alloc (Nat.le_refl _) o) h.lt
theorem BlkI.newAt (w : World) (t : TypeId) (b n : Nat) (f : Nat → Nat) (c : Array Value) (hb : b = w.heap.size) (hs : c.size = n) (hf : ∀ i, i < n → c[i]? = some (.int .i64 ((f i : Nat) : Int))) : BlkI (w.alloc (.cells c t)) t b n f :=
  ⟨c, by subst hb; show (w.heap.push _)[w.heap.size]? = _; simp, hs, hf⟩
theorem BlkI.other (h : BlkI w t b n f) {a : Addr} (ha : b ≠ a.block) (v : Value) : BlkI (w.setCell a v) t b n f := by
  obtain ⟨c, hc, hs⟩ := h
  exact ⟨c, by rw [Below.heap_setCell w a v b ha]; exact hc, hs⟩
theorem BlkI.congr (h : BlkI w t b n f) (hg : ∀ i, i < n → g i = f i) : BlkI w t b n g := by
  obtain ⟨c, hc, hs, hf⟩ := h
  exact ⟨c, hc, hs, fun i hi => by rw [hf i hi, hg i hi]⟩
theorem BlkI.set (h : BlkI w t b n f) (k : Nat) (hk : k < n) (v : Nat) : BlkI (w.setCell ⟨b, k, none⟩ (.int .i64 ((v : Nat) : Int))) t b n (fun i => if i = k then v else f i) := by
  obtain ⟨c, hc, hs, hf⟩ := h
  refine ⟨c.setIfInBounds k (.int .i64 ((v : Nat) : Int)), ?_, by simp [hs], ?_⟩
  · simp [World.setCell, Array.getElem?_modify, hc]
  · intro i hi
    by_cases e : i = k
    · subst e; simp [hs, hi]
    · simp [e, Ne.symm (fun h => e h), hf i hi]
end


theorem own_blkI {w : World} {base g n : Nat} {e : TypeId} {xs : List Value} {f : Nat → Nat} (h : w.ownsRow base e 1 (.slice (some ⟨g, 0, none⟩) n n) n xs) (hf : ∀ i, i < n → xs[i]? = some (.int .i64 ((f i : Nat) : Int))) (hn : 0 < n) : BlkI w e g n f ∧ base ≤ g := by
  obtain ⟨hl, h⟩ := h
  rcases h with ⟨h0, h1⟩ | ⟨g', c, cur, h1, hb, hg, hc, _, hs, ht⟩
  · omega
  · cases h1
    refine ⟨⟨cur, hg, by omega, ?_⟩, hb⟩
    intro i hi
    rw [← hf i hi, ← ht]
    simp [hi]

set_option maxHeartbeats 8000000 in
set_option maxRecDepth 20000 in
/-- The reference's Mul. -/
theorem refMul_any (A B : Nat) (hA : A < 115792089237316195423570985008687907853269984665640564039457584007913129639936) (hB : B < 115792089237316195423570985008687907853269984665640564039457584007913129639936) (w : World) :
    Calls Try.prog 18 #[.agg #[.int .u64 ((limb 0 (A) : Nat) : Int), .int .u64 ((limb 1 (A) : Nat) : Int), .int .u64 ((limb 2 (A) : Nat) : Int), .int .u64 ((limb 3 (A) : Nat) : Int)], .agg #[.int .u64 ((limb 0 (B) : Nat) : Int), .int .u64 ((limb 1 (B) : Nat) : Int), .int .u64 ((limb 2 (B) : Nat) : Int), .int .u64 ((limb 3 (B) : Nat) : Int)]] w fun e w' => e = .returned (.tuple #[.agg #[.int .u64 ((limb 0 (lo256 (A * B)) : Nat) : Int), .int .u64 ((limb 1 (lo256 (A * B)) : Nat) : Int), .int .u64 ((limb 2 (lo256 (A * B)) : Nat) : Int), .int .u64 ((limb 3 (lo256 (A * B)) : Nat) : Int)], .agg #[.int .u64 ((limb 0 (hi256 (A * B)) : Nat) : Int), .int .u64 ((limb 1 (hi256 (A * B)) : Nat) : Int), .int .u64 ((limb 2 (hi256 (A * B)) : Nat) : Int), .int .u64 ((limb 3 (hi256 (A * B)) : Nat) : Int)]]) ∧ Below w.heap.size w w' := by
  obtain ⟨i0, hi, hz0, hz1, hz2⟩ := intInfo
  have HI := (show Hid _ from hi); have HZ := (show Hid _ from And.intro hz0 (And.intro hz1 hz2)); clear hi hz0 hz1 hz2
  go_enter Try.func18, Try.ntmps18
  go_wp2_with fail
  obtain ⟨w0, hw0⟩ : ∃ w0 : World, w0 = (((w.alloc (.cells #[.int .u64 ((limb 0 (A) : Nat) : Int), .int .u64 ((limb 1 (A) : Nat) : Int), .int .u64 ((limb 2 (A) : Nat) : Int), .int .u64 ((limb 3 (A) : Nat) : Int)] 24)).alloc (.cells #[.int .u64 ((limb 0 (B) : Nat) : Int), .int .u64 ((limb 1 (B) : Nat) : Int), .int .u64 ((limb 2 (B) : Nat) : Int), .int .u64 ((limb 3 (B) : Nat) : Int)] 24)).alloc (.cells #[.int .u64 0, .int .u64 0, .int .u64 0, .int .u64 0] 24)).alloc (.cells #[.int .u64 0, .int .u64 0, .int .u64 0, .int .u64 0] 24) := ⟨_, rfl⟩
  have bB : Blk w0 24 (w.heap.size + 1) (fun i => limb i B) := by rw [hw0]; exact ((Blk.newAt _ _ _ (fun i => limb i B) (by simp)).alloc _).alloc _
  have b3 : Blk w0 24 (w.heap.size + 1 + 1) (fun _ => 0) := by rw [hw0]; exact (Blk.newAt _ _ _ (fun _ => 0) (by simp)).alloc _
  have b4 : Blk w0 24 (w.heap.size + 1 + 1 + 1) (fun _ => 0) := by rw [hw0]; exact Blk.newAt _ _ _ (fun _ => 0) (by simp)
  have hb0 : Below w.heap.size w w0 := by
    rw [hw0]
    repeat (first | with_reducible exact Below.refl _ _ | with_reducible refine Below.alloc ?_ (by first | omega | (simp; omega) | simp) _)
  rw [← hw0]
  clear hw0
  refine (bits_any A _).mono ?_
  rintro e w1 ⟨ga, ca, rfl, hca, hga0, hga, hcA, hb1⟩
  have bB1 := bB.belowAll hb1; have b31 := b3.belowAll hb1; have b41 := b4.belowAll hb1
  have hbw1 := bStep hb0 hb1
  have HA := (show Hid _ from hcA)
  clear bB b3 b4 hb0 hb1 hcA
  have cB1 := bB1.cell
  go_wp2_with fail
  refine (bits_any B _).mono ?_
  rintro e w2 ⟨gb, cb, rfl, hcb, hgb0, hgb, hcB, hb2⟩
  have b32 := b31.belowAll hb2; have b42 := b41.belowAll hb2
  have hbw2 := bStep hbw1 hb2
  have hga2 : ga < w2.heap.size := Nat.lt_of_lt_of_le hga hb2.size
  have hcA2 : ∀ i, i < 256 → w2.cell? ⟨ga, i, none⟩ = some (.int .i64 ((bitN A i : Nat) : Int)) := fun i hi => by rw [hb2.cell (p := ⟨ga, i, none⟩) hga]; exact HA.out i hi
  have HA2 := (show Hid _ from hcA2); have HB2 := (show Hid _ from hcB)
  clear bB1 b31 b41 hbw1 hb2 HA hcA2 hcB cB1 hga hga0 hgb0 hca hcb
  go_wp2_with (first
    | (at_make; refine wpList_make_full _ rfl _ _ 29 rfl w2.heap.size 3 i0 (.int .i64 0) 1 Try.underlying29 HI.out HZ.out.1 HZ.out.2.1 .i64 .i64 520 520 520 rfl rfl rfl rfl ?c1 (by decide) (Nat.le_refl _) ?_)
    | go_in)
  case c1 => rw [HZ.out.2.2]; decide
  intro w3 hown hgrow
  obtain ⟨bS, _⟩ := own_blkI (f := fun _ => 0) hown (by intro i hi; simp [madeCells]; exact ⟨i, by simp [hi], by rw [Nat.mod_one]; rfl⟩) (by decide)
  have hbe : Below w2.heap.size w2 w3 := (Below.refl _ w2).grown hgrow (Nat.le_refl _) (fun j hj => by cases hj)
  have hz2 := b42.lt
  clear hown hgrow
  go_wp2
  go_loopw [9] (fun i wr => ∃ k : Nat, i = .int .i64 (k : Int) ∧ k ≤ 256 ∧ Below w2.heap.size w2 wr ∧ ∃ f, BlkI wr 3 w2.heap.size 520 f ∧ valB f 520 = A % 2 ^ k * B ∧ ∀ n, n < 520 → f n ≤ k) (fun i _ => 256 - (intOf i).toNat)
  case atStart => exact ⟨0, rfl, by decide, hbe, fun _ => 0, bS, by rw [valB_zero, Nat.pow_zero, Nat.mod_one, Nat.zero_mul], fun _ _ => Nat.le_refl _⟩
  case round =>
    obtain ⟨k, rfl, hk, hbr, f, bF, hv, hf⟩ := hrel
    by_cases hlt : k < 256
    · have hki : (k : Int) < 256 := by omega
      have cA : wr.cell? ⟨ga, k, none⟩ = some (.int .i64 ((bitN A k : Nat) : Int)) := by rw [hbr.cell (p := ⟨ga, k, none⟩) hga2]; exact HA2.out k hlt
      by_cases hbit : bitN A k = 0
      · rw [hbit] at cA
        have HV : Hid (valB f 520 = A % 2 ^ (k + 1) * B) := by show _ = _; rw [hv, col_start A B k hbit]
        clear hv hbit
        go_wp2
        go_roundw
        case measure => simp [intOf]; omega
        case rel => exact ⟨k + 1, by go_num, by omega, hbr, f, bF, HV.out, fun n hn => Nat.le_succ_of_le (hf n hn)⟩
      · have hb1 : bitN A k = 1 := by have := bitN_le A k; omega
        rw [hb1] at cA
        have HB1 := (show Hid _ from hb1); have HV := (show Hid _ from hv); have HF := (show Hid _ from hf)
        clear hbit hb1 hv hf
        go_wp2
        go_loopw [10] (fun j wr => ∃ m : Nat, j = .int .i64 (m : Int) ∧ m ≤ 256 ∧ Below w2.heap.size w2 wr ∧ ∃ f, BlkI wr 3 w2.heap.size 520 f ∧ valB f 520 = A % 2 ^ k * B + 2 ^ k * (B % 2 ^ m) ∧ (∀ n, n < 520 → f n ≤ k + 1) ∧ (∀ n, k + m ≤ n → n < 520 → f n ≤ k)) (fun j _ => 256 - (intOf j).toNat)
        case atStart => exact ⟨0, rfl, by decide, hbr, f, bF, by rw [HV.out, Nat.pow_zero, Nat.mod_one, Nat.mul_zero, Nat.add_zero], fun n hn => Nat.le_succ_of_le (HF.out n hn), fun n _ hn => HF.out n hn⟩
        case round =>
          obtain ⟨m, rfl, hm, hbr2, f2, bF2, hv2, hf2, hf3⟩ := hrel
          by_cases hlt2 : m < 256
          · have hmi : (m : Int) < 256 := by omega
            have cB : wr.cell? ⟨gb, m, none⟩ = some (.int .i64 ((bitN B m : Nat) : Int)) := by rw [hbr2.cell (p := ⟨gb, m, none⟩) hgb]; exact HB2.out m hlt2
            have cS := bF2.cell (k + m) (by omega)
            have fS := bF2.frozen
            have eS : ((k : Int) + (m : Int)).toNat = k + m := by omega
            have hi0 : (0 : Int) ≤ (k : Int) + (m : Int) := by omega
            have hi1 : (k : Int) + (m : Int) < 520 := by omega
            have hx1 := hf3 (k + m) (Nat.le_refl _) (by omega)
            have hy1 := bitN_le B m
            obtain ⟨x, ex⟩ : ∃ x : Int, x = ((f2 (k + m) : Nat) : Int) := ⟨_, rfl⟩
            obtain ⟨y, ey⟩ : ∃ y : Int, y = ((bitN B m : Nat) : Int) := ⟨_, rfl⟩
            rw [← ex] at cS
            rw [← ey] at cB
            have x0 : 0 ≤ x := by omega
            have x1 : x ≤ 256 := by omega
            have y0 : 0 ≤ y := by omega
            have y1 : y ≤ 1 := by omega
            have exy : x + y = ((f2 (k + m) + bitN B m : Nat) : Int) := by omega
            have EXY := (show Hid _ from exy); have HV2 := (show Hid _ from hv2); have HF2 := (show Hid _ from hf2); have HF3 := (show Hid _ from hf3)
            clear exy ex ey hx1 hy1 hv2 hf2 hf3
            go_wp2_with fail
            go_region
            go_wp2
            go_roundw
            case measure => simp [intOf]; omega
            case rel =>
              rw [EXY.out]
              have hset := valB_set f2 (k + m) (f2 (k + m) + bitN B m) 520 (by omega)
              refine ⟨m + 1, by go_num, by omega, ((hbr2.drew).setCell (by dsimp only; omega) _), _, (BlkI.drew bF2).set (k + m) (by omega) _, col_step _ B k m _ _ _ _ HV2.out rfl hset, ?_, ?_⟩
              · intro n hn
                split
                · have := HF3.out (k + m) (Nat.le_refl _) (by omega); have := bitN_le B m; omega
                · exact HF2.out n hn
              · intro n h1 hn
                rw [if_neg (by omega)]
                exact HF3.out n (by omega) hn
          · have hmi : ¬ (m : Int) < 256 := by omega
            have hm6 : m = 256 := by omega
            subst hm6
            have HV2 := (show Hid _ from hv2); have HF2 := (show Hid _ from hf2)
            clear hv2 hf2 hf3
            go_wp2
            go_roundw
            case measure => simp [intOf]; omega
            case rel => exact ⟨k + 1, by go_num, by omega, hbr2, f2, bF2, by rw [HV2.out, col_end A B k hB HB1.out], HF2.out⟩
    · have hki : ¬ (k : Int) < 256 := by omega
      have hk6 : k = 256 := by omega
      subst hk6
      have HV : Hid (valB f 520 = A * B) := by show _ = _; rw [hv, Nat.mod_eq_of_lt (show A < 2 ^ 256 from hA)]
      have HF := (show Hid _ from hf)
      clear hv hf
      go_wp2
      go_loopw [11] (fun i wr => ∃ t : Nat, i = .int .i64 (t : Int) ∧ t ≤ 519 ∧ Below w2.heap.size w2 wr ∧ ∃ f, BlkI wr 3 w2.heap.size 520 f ∧ valB f 520 = A * B ∧ (∀ n, n < t → f n ≤ 1) ∧ f t ≤ 1000 ∧ (∀ n, t < n → n < 520 → f n ≤ 256)) (fun i _ => 519 - (intOf i).toNat)
      case atStart => exact ⟨0, rfl, by decide, hbr, f, bF, HV.out, fun n hn => by omega, Nat.le_trans (HF.out 0 (by decide)) (by decide), fun n _ hn => HF.out n hn⟩
      case round =>
        obtain ⟨t, rfl, ht, hbr2, f2, bF2, hv2, h1, h2, h3⟩ := hrel
        by_cases hlt3 : t < 519
        · have hti : (t : Int) + 1 < 520 := by omega
          have ht0 : (t : Int) < 520 := by omega
          have hti0 : (0 : Int) ≤ (t : Int) + 1 := by omega
          have eT : ((t : Int) + 1).toNat = t + 1 := by omega
          have c0 := bF2.cell t (by omega)
          have c1 := bF2.cell (t + 1) (by omega)
          have fS := bF2.frozen
          have h4 := h3 (t + 1) (by omega) (by omega)
          obtain ⟨x, ex⟩ : ∃ x : Int, x = ((f2 t : Nat) : Int) := ⟨_, rfl⟩
          obtain ⟨y, ey⟩ : ∃ y : Int, y = ((f2 (t + 1) : Nat) : Int) := ⟨_, rfl⟩
          rw [← ex] at c0
          rw [← ey] at c1
          have x0 : 0 ≤ x := by omega
          have x1 : x ≤ 1000 := by omega
          have y0 : 0 ≤ y := by omega
          have y1 : y ≤ 256 := by omega
          have e1 : y + x / 2 = ((f2 (t + 1) + f2 t / 2 : Nat) : Int) := by omega
          have e2 : x % 2 = ((f2 t % 2 : Nat) : Int) := by omega
          have E1 := (show Hid _ from e1); have E2 := (show Hid _ from e2); have HV2 := (show Hid _ from hv2); have H1 := (show Hid _ from h1); have H2 := (show Hid _ from h2); have H3 := (show Hid _ from h3)
          clear e1 e2 ex ey h4 hv2 h1 h2 h3
          go_wp2_with fail
          go_region
          go_wp2
          go_roundw
          case measure => simp [intOf]; omega
          case rel =>
            rw [E1.out, E2.out]
            have hck := carry_keep f2 t 520 (A * B) (by omega) HV2.out
            refine ⟨t + 1, by go_num, by omega, (((hbr2.drew).setCell (by dsimp only; omega) _).setCell (by dsimp only; omega) _), (fun i => if i = t then f2 t % 2 else if i = t + 1 then f2 (t + 1) + f2 t / 2 else f2 i), (((BlkI.drew bF2).set (t + 1) (by omega) _).set t (by omega) _), hck, ?_, ?_, ?_⟩
            · intro n hn
              show (if n = t then f2 t % 2 else if n = t + 1 then f2 (t + 1) + f2 t / 2 else f2 n) ≤ 1
              by_cases h : n = t
              · rw [if_pos h]; omega
              · rw [if_neg h, if_neg (by omega)]; exact H1.out n (by omega)
            · show (if t + 1 = t then f2 t % 2 else if t + 1 = t + 1 then f2 (t + 1) + f2 t / 2 else f2 (t + 1)) ≤ 1000
              rw [if_neg (by omega), if_pos rfl]
              have := H3.out (t + 1) (by omega) (by omega); have := H2.out; omega
            · intro n h1 hn
              show (if n = t then f2 t % 2 else if n = t + 1 then f2 (t + 1) + f2 t / 2 else f2 n) ≤ 256
              rw [if_neg (by omega), if_neg (by omega)]; exact H3.out n (by omega) hn
        · have ht9 : t = 519 := by omega
          subst ht9
          have hbits : ∀ i, i < 519 → f2 i = bitN (A * B) i := fun i hi => by rw [← hv2, valB_bit f2 519 520 (by decide) h1 i hi]
          have hlo : ∀ i, i < 256 → wr.cell? ⟨w2.heap.size, 0 + i, none⟩ = some (.int .i64 ((bitN (lo256 (A * B)) i : Nat) : Int)) := by
            intro i hi; rw [Nat.zero_add, bF2.cell i (by omega), hbits i (by omega)]; unfold lo256; rw [bitN_mod _ _ hi]
          have hhi : ∀ i, i < 256 → wr.cell? ⟨w2.heap.size, 256 + i, none⟩ = some (.int .i64 ((bitN (hi256 (A * B)) i : Nat) : Int)) := by
            intro i hi; rw [bF2.cell (256 + i) (by omega), hbits (256 + i) (by omega)]; unfold hi256; rw [bitN_high]
          have HLO := (show Hid _ from hlo); have HHI := (show Hid _ from hhi)
          have hLl := lo256_lt (A * B)
          have hHl : hi256 (A * B) < 115792089237316195423570985008687907853269984665640564039457584007913129639936 := by
            unfold hi256
            rw [Nat.div_lt_iff_lt_mul (by decide)]
            exact Nat.mul_lt_mul'' hA hB
          obtain ⟨L, eL⟩ : ∃ L, L = lo256 (A * B) := ⟨_, rfl⟩
          obtain ⟨Hh, eH⟩ : ∃ Hh, Hh = hi256 (A * B) := ⟨_, rfl⟩
          rw [← eL] at HLO hLl
          rw [← eH] at HHI hHl
          have b3r := b32.belowAll hbr2; have b4r := b42.belowAll hbr2
          have hbwr := bStep hbw2 hbr2
          have lS := bF2.lt
          have EL := (show Hid _ from eL); have EH := (show Hid _ from eH)
          clear hbits hlo hhi hv2 h1 h2 h3 eL eH
          have CH := (fun (w4 : World) (hb4 : Below wr.drew.heap.size wr.drew w4) => elem_any Hh w2.heap.size 256 256 264 hHl (by decide) (by decide) w4 (Nat.lt_of_lt_of_le lS hb4.size) (fun i hi => by rw [hb4.cell (p := ⟨w2.heap.size, 256 + i, none⟩) lS]; exact HHI.out i hi))
          have CL := (fun (_ : Unit) => elem_any L w2.heap.size 0 256 520 hLl (by decide) (by decide) wr.drew lS HLO.out)
          go_wp2_with fail
          go_region_held3 (fun _ => True)
            (trivial)
            (first
              | (go_at_call 33; refine (CH w4 hb4).mono ?_; rintro e w5 ⟨rfl, hb5⟩; have b35 := (b3r.drew.belowAll hb4).belowAll hb5; have b45 := (b4r.drew.belowAll hb4).belowAll hb5; have c3 := b35.cell; have f3 := b35.frozen; have c4 := b45.cell; have f4 := b45.frozen)
              | (go_at_call 33; refine (CL ()).mono ?_; rintro e w4 ⟨rfl, hb4⟩)
              | fail)
          have hbw5 : Below w.heap.size w w5 := bStep (bStep hbwr.drew hb4) hb5
          go_wp2
          refine bodyPost_ret (v := .tuple #[.agg #[.int .u64 ((limb 0 (L) : Nat) : Int), .int .u64 ((limb 1 (L) : Nat) : Int), .int .u64 ((limb 2 (L) : Nat) : Int), .int .u64 ((limb 3 (L) : Nat) : Int)], .agg #[.int .u64 ((limb 0 (Hh) : Nat) : Int), .int .u64 ((limb 1 (Hh) : Nat) : Int), .int .u64 ((limb 2 (Hh) : Nat) : Int), .int .u64 ((limb 3 (Hh) : Nat) : Int)]]) (by simp [results, Try.results18, go_sem, c3, c4]) rfl ⟨by rw [EL.out, EH.out], ?_⟩
          repeat (first | with_reducible exact hbw5 | with_reducible refine Below.setCell ?_ (by first | omega | (simp; omega) | simp) _)

end Go.Proofs.Ytpengmecojkmaaa
