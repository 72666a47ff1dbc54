/- What field.squareRoot does. -/
import Derived.Test.YtlndeghggdpmaacDoorR2
import Derived.Deep.RegionWith
namespace Go.Proofs.YtlndeghggdpmaacDoor
open Go.RowKit

/-- The modulus less 1 is an odd number times 2^S, and 5 to the power (m - 1) / 2 is the opposite of 1. -/
def OddPart (m h S : Nat) : Prop := m - 1 = (2 * h + 1) * 2 ^ S ∧ 1 ≤ S ∧ S ≤ 32 ∧ powM m 5 ((2 * h + 1) * 2 ^ (S - 1)) = m - 1
theorem OddPart.down {m h S : Nat} (hm : 1 < m) (H : OddPart m h S) : m / 2 ^ (S + 1) = h ∧ (m - 1) / 2 ^ S = 2 * h + 1 := by
  obtain ⟨h1, h2, h3, _⟩ := H
  constructor
  · have e : m = h * 2 ^ (S + 1) + (2 ^ S + 1) := by
      rw [Nat.add_mul, Nat.one_mul] at h1
      rw [Nat.pow_succ, ← Nat.mul_assoc, Nat.mul_right_comm, Nat.mul_comm h 2]
      omega
    have hp : 2 ≤ 2 ^ S := by
      have := Nat.pow_le_pow_right (show 0 < 2 by decide) h2
      simpa using this
    have hlt : 2 ^ S + 1 < 2 ^ (S + 1) := by rw [Nat.pow_succ]; omega
    rw [e, Nat.mul_comm h, Nat.mul_add_div (Nat.two_pow_pos _), Nat.div_eq_of_lt hlt, Nat.add_zero]
  · rw [h1, Nat.mul_div_cancel _ (Nat.two_pow_pos _)]
theorem PInv.start {m x h S : Nat} (hm : 1 < m) (H : OddPart m h S) :
    PInv m x (2 * h + 1) S (powM m x h * x % m) (powM m x h * x % m * powM m x h % m) (powM m 5 (2 * h + 1)) S := by
  obtain ⟨h1, h2, h3, h4⟩ := H
  have h0 : 0 < m := by omega
  have e1 : powM m x h * x % m = powM m x (h + 1) := powM_more m x h
  have e2 : powM m x h * x % m * powM m x h % m = powM m x (2 * h + 1) := by rw [e1, powM_add]; congr 1; omega
  refine ⟨mul_lt_mod _ _ _ h0, mul_lt_mod _ _ _ h0, powM_lt _ _ _ h0, h2, Nat.le_refl _, ?_, ?_, Or.inl ⟨rfl, e2⟩⟩
  · rw [e2, e1, powM_two, Nat.mul_comm x, powM_more]
    rfl
  · rw [sqs_pow]; exact h4

set_option maxHeartbeats 8000000 in
set_option maxRecDepth 20000 in
/-- field.squareRoot. -/
theorem squareRoot_any (m x h S : Nat) (hp : IsPrime m) (hG : GoodMod m) (h5 : 5 < m) (H : OddPart m h S) (hx : x < m) (w : World) (hg : Glob w) :
    Calls Tryd.prog 46 #[.agg #[.int .u64 ((limb 0 (m) : Nat) : Int), .int .u64 ((limb 1 (m) : Nat) : Int), .int .u64 ((limb 2 (m) : Nat) : Int), .int .u64 ((limb 3 (m) : Nat) : Int)], .int .i64 (S : Int), .agg #[.int .u64 ((limb 0 (x) : Nat) : Int), .int .u64 ((limb 1 (x) : Nat) : Int), .int .u64 ((limb 2 (x) : Nat) : Int), .int .u64 ((limb 3 (x) : Nat) : Int)]] w fun e w' => ((∃ r, r < m ∧ r * r % m = x ∧ e = .returned (.tuple #[.agg #[.int .u64 ((limb 0 (r) : Nat) : Int), .int .u64 ((limb 1 (r) : Nat) : Int), .int .u64 ((limb 2 (r) : Nat) : Int), .int .u64 ((limb 3 (r) : Nat) : Int)], .bool true])) ∨ (x ≠ 0 ∧ powM m x ((2 * h + 1) * 2 ^ (S - 1)) ≠ 1 ∧ e = .returned (.tuple #[.agg #[.int .u64 0, .int .u64 0, .int .u64 0, .int .u64 0], .bool false]))) ∧ Below w.heap.size w w' := by
  have hgl := hG.lt
  have hdn := H.down (by omega)
  have hS : 1 ≤ S ∧ S ≤ 32 := ⟨H.2.1, H.2.2.1⟩
  have SD := fun w => shiftDown_any m (S + 1) (by omega) hgl.2.2 w
  rw [hdn.1] at SD
  obtain ⟨S1, eS⟩ : ∃ S1, S1 = S + 1 := ⟨_, rfl⟩
  rw [← eS] at SD
  have eS1 := (show Hid _ from eS)
  clear eS
  have lh : h < 115792089237316195423570985008687907853269984665640564039457584007913129639936 := by rw [← hdn.1]; exact Nat.lt_of_le_of_lt (Nat.div_le_self _ _) hgl.2.2
  have PW := fun w hg => power_any m x h hG (by omega) hx lh w hg
  have UR := fun w hg => unityRoot_any m S hG h5 (by omega) w hg
  rw [hdn.2] at UR
  have lp := powM_lt m x h hgl.1
  have PP := fun a b (ha : a < m) (hb : b < m) w => product_any m a b hG ha hb w
  have SQ := fun a n (ha : a < m) (hn : n < 64) w => squared_any m a n hG ha hn w
  have OL := fun a n (ha : a < m) (hn : n < 64) w hg => orderLog_any m a n hG ha hn w hg
  have P1 := fun w => PP _ _ lp hx w
  have P2 := fun w => PP _ _ (mul_lt_mod m (powM m x h) x hgl.1) lp w
  have HI : Hid (PInv m x (2 * h + 1) S (powM m x h * x % m) (powM m x h * x % m * powM m x h % m) (powM m 5 (2 * h + 1)) S) := PInv.start (show 1 < m by omega) H
  have HX := (show Hid _ from hp)
  obtain ⟨o, eo⟩ : ∃ o, o = 2 * h + 1 := ⟨_, rfl⟩
  rw [← eo] at UR HI ⊢
  obtain ⟨z, ez⟩ : ∃ z, z = powM m 5 o := ⟨_, rfl⟩
  rw [← ez] at UR HI
  obtain ⟨p, ep⟩ : ∃ p, p = powM m x h := ⟨_, rfl⟩
  rw [← ep] at PW P1 P2 HI lp
  obtain ⟨q, eq⟩ : ∃ q, q = p * x % m := ⟨_, rfl⟩
  rw [← eq] at P1 P2 HI
  obtain ⟨l, el⟩ : ∃ l, l = q * p % m := ⟨_, rfl⟩
  rw [← el] at P2 HI
  have HS := (show Hid _ from hS)
  have hm := hgl.2.2
  have hm0 := hgl.1
  clear hdn hS eo ez ep eq el lh hG hp H h5 hgl
  have EQ0 := fun w => eqlS0 x (by omega) w
  go_enter Tryd.func46, Tryd.ntmps46
  go_upto_region 1 with fail
  obtain ⟨w0, hw0⟩ : ∃ w0 : World, w0 = ((w.alloc (.cells #[.int .u64 ((limb 0 (m) : Nat) : Int), .int .u64 ((limb 1 (m) : Nat) : Int), .int .u64 ((limb 2 (m) : Nat) : Int), .int .u64 ((limb 3 (m) : Nat) : Int)] 49)).alloc (.cells #[.int .u64 ((limb 0 (x) : Nat) : Int), .int .u64 ((limb 1 (x) : Nat) : Int), .int .u64 ((limb 2 (x) : Nat) : Int), .int .u64 ((limb 3 (x) : Nat) : Int)] 49)).alloc (.cells #[.int .u64 0, .int .u64 0, .int .u64 0, .int .u64 0] 49) := ⟨_, rfl⟩
  have bm0 : Blk w0 49 w.heap.size (fun i => limb i m) := by rw [hw0]; exact ((Blk.newAt _ _ _ (fun i => limb i m) (by simp)).alloc _).alloc _
  have bx0 : Blk w0 49 (w.heap.size + 1) (fun i => limb i x) := by rw [hw0]; exact (Blk.newAt _ _ _ (fun i => limb i x) (by simp)).alloc _
  have br0 : Blk w0 49 (w.heap.size + 1 + 1) (fun _ => 0) := by rw [hw0]; exact Blk.newAt _ _ _ (fun _ => 0) (by simp)
  have hg0 : Glob w0 := by rw [hw0]; exact ((hg.alloc _).alloc _).alloc _
  have hb0 : Below w.heap.size w w0 := by
    rw [hw0]
    repeat (first | with_reducible exact Below.refl _ _ | with_reducible refine Below.alloc ?_ (by first | omega | (simp; omega) | simp) _)
  rw [← hw0]
  have hgw := hg.1
  clear hw0 hg
  have cx := bx0.cell; have cr := br0.cell; have fr := br0.frozen
  by_cases hx0 : x = 0
  · rw [show decide (x = 0) = true from by simp [hx0]] at EQ0
    have HZ : Hid (x * x % m = x) := by show _ = _; rw [hx0]; simp
    clear hx0
    go_wp2
    refine bodyPost_ret (v := .tuple #[.agg #[.int .u64 ((limb 0 (x) : Nat) : Int), .int .u64 ((limb 1 (x) : Nat) : Int), .int .u64 ((limb 2 (x) : Nat) : Int), .int .u64 ((limb 3 (x) : Nat) : Int)], .bool true]) (by simp [results, Tryd.results46, go_sem, cr]) rfl ⟨Or.inl ⟨x, hx, HZ.out, rfl⟩, ?_⟩
    repeat (first | with_reducible exact hb0 | with_reducible refine Below.setCell ?_ (by first | omega | (simp; omega) | simp) _)
  · rw [show decide (x = 0) = false from by simp [hx0]] at EQ0
    have HX0 := (show Hid _ from hx0)
    clear hx0 cr fr
    have hz0 := br0.lt
    go_upto_region 3 with fail
    clear cx EQ0
    have hsi : (S : Int) + 1 = (S1 : Int) := by rw [eS1.out]; omega
    have hsb : IntKind.i64.wrap (S1 : Int) = (S1 : Int) := by
      have h33 : S1 ≤ 33 := by rw [eS1.out]; have := HS.out.2; omega
      rw [IntKind.wrap_i64]; omega
    go_wp2_with fail
    have hg0d := hg0.drew
    have hgAd := (hg0.alloc (.cells #[.int .u64 0, .int .u64 0, .int .u64 0, .int .u64 0] 49)).drew
    go_cut [8] (fun pr wx => ∃ r : Nat, pr = .pointer (some ⟨r, 0, none⟩) ∧ w0.heap.size ≤ r ∧ Blk wx 49 r (fun i => limb i p) ∧ Below w0.heap.size w0 wx)
    case first =>
      go_region_held3 (fun w' => (∀ i, i < 4 → w'.cell? ⟨w.heap.size, i, none⟩ = some (.int .u64 ((limb i m : Nat) : Int))) ∧ (∀ i, i < 4 → w'.cell? ⟨w.heap.size + 1, i, none⟩ = some (.int .u64 ((limb i x : Nat) : Int))))
        (first | with_reducible exact two_below hb4 (by with_reducible assumption) | with_reducible exact two_below hb3 (by with_reducible assumption) | with_reducible exact two_alloc _ (by with_reducible assumption) | with_reducible exact two_re _ _ (by omega) (by with_reducible assumption) | with_reducible exact two_far _ _ _ _ _ (by omega) (by with_reducible assumption) | with_reducible exact ⟨bm0.drew.cell, bx0.drew.cell⟩ | with_reducible exact ⟨(bm0.alloc _).drew.cell, (bx0.alloc _).drew.cell⟩)
        (first | (go_at_call 65; with_reducible refine (SD _).mono ?_; rintro e w3 ⟨rfl, hb3⟩; obtain ⟨hc3, hf3⟩ := bcell hb3; have hz3 := hb3.size; try simp at hz3; try (have hy3 : w0.heap.size < w3.heap.size := by omega)) | (go_at_call 67; with_reducible refine (PW _ ?_).mono ?_; (first | with_reducible exact hg0d.below hb3 | with_reducible exact hgAd.below hb3 | with_reducible exact (hg0d.below hb3).alloc _); rintro e w4 ⟨rfl, hb4⟩; obtain ⟨hc4, hf4⟩ := bcell hb4; have hz4 := hb4.size; try simp at hz4) | fail)
      all_goals (go_wp2_with fail; go_meet)
      · refine ⟨_, rfl, by omega, ?_, ?_⟩
        · exact Blk.new w4 _ (fun i => limb i p)
        · exact ((Below.refl w0.heap.size w0).drew.trans (hb3.trans (hb4.mono (show w0.heap.size ≤ w3.heap.size by omega)))).alloc (by omega) _
      · refine ⟨_, rfl, by omega, ?_, ?_⟩
        · exact ((Blk.new w3 _ (fun _ => 0)).belowAll hb4).set4 (fun i => limb i p)
        · have hb5 : Below w0.heap.size w0 w4 := ((Below.refl w0.heap.size w0).drew.trans hb3).trans ((((Below.refl w3.heap.size w3).alloc (Nat.le_refl _) _).trans (hb4.mono (by simp))).mono (by omega))
          exact (((hb5.setCell (by dsimp only; omega) _).setCell (by dsimp only; omega) _).setCell (by dsimp only; omega) _).setCell (by dsimp only; omega) _
      · refine ⟨_, rfl, by omega, ?_, ?_⟩
        · exact (((Blk.new w0 _ (fun _ => 0)).drew.belowAll hb3).belowAll hb4).set4 (fun i => limb i p)
        · have hb5 : Below w0.heap.size w0 w4 := (((Below.refl w0.heap.size w0).alloc (Nat.le_refl _) _).drew.trans (hb3.mono (by simp))).trans (hb4.mono (by omega))
          exact (((hb5.setCell (by dsimp only; omega) _).setCell (by dsimp only; omega) _).setCell (by dsimp only; omega) _).setCell (by dsimp only; omega) _
    case rest =>
      obtain ⟨N8, rfl, hN8, bp1, hbx⟩ := hcut
      have bm1 := bm0.belowAll hbx; have bx1 := bx0.belowAll hbx; have br1 := br0.belowAll hbx; have hg1 := hg0.below hbx
      have hbw1 := bStep hb0 hbx
      clear bm0 bx0 br0 hg0 hb0 hbx SD PW hsi hsb
      have cm := bm1.cell; have cx := bx1.cell; have cp := bp1.cell
      go_wp2_with fail
      refine (P1 _).mono ?_
      rintro e w2 ⟨rfl, hb2⟩
      have bm2 := bm1.belowAll hb2; have bp2 := bp1.belowAll hb2; have br2 := br1.belowAll hb2; have hg2 := hg1.below hb2
      have hbw2 := bStep hbw1 hb2
      have l8 : N8 < w2.heap.size := bp2.lt
      clear bm1 bx1 bp1 br1 hg1 hbw1 hb2 cm cx cp P1
      obtain ⟨N9, e9⟩ : ∃ N9, N9 = w2.heap.size := ⟨_, rfl⟩
      obtain ⟨w3, hw3⟩ : ∃ w3 : World, w3 = w2.alloc (.cells #[.int .u64 ((limb 0 (q) : Nat) : Int), .int .u64 ((limb 1 (q) : Nat) : Int), .int .u64 ((limb 2 (q) : Nat) : Int), .int .u64 ((limb 3 (q) : Nat) : Int)] 49) := ⟨_, rfl⟩
      have bm3 : Blk w3 49 w.heap.size (fun i => limb i m) := by rw [hw3]; exact bm2.alloc _
      have bp3 : Blk w3 49 N8 (fun i => limb i p) := by rw [hw3]; exact bp2.alloc _
      have br3 : Blk w3 49 (w.heap.size + 1 + 1) (fun _ => 0) := by rw [hw3]; exact br2.alloc _
      have bo3 : Blk w3 49 N9 (fun i => limb i q) := by rw [hw3]; exact Blk.newAt _ _ _ (fun i => limb i q) e9
      have hg3 : Glob w3 := by rw [hw3]; exact hg2.alloc _
      have hbw3 : Below w.heap.size w w3 := by rw [hw3]; exact bAlloc hbw2 _
      have r9 : w.heap.size + 1 + 1 < N9 := by have := br2.lt; omega
      go_upto_region 5 with fail
      rw [← hw3, ← e9]
      rw [← e9] at l8
      clear hw3 e9 bm2 bp2 br2 hg2 hbw2
      have cm := bm3.cell; have co := bo3.cell; have cp := bp3.cell
      go_wp2_with fail
      refine (P2 _).mono ?_
      rintro e w4 ⟨rfl, hb4⟩
      have bm4 := bm3.belowAll hb4; have bo4 := bo3.belowAll hb4; have br4 := br3.belowAll hb4; have hg4 := hg3.below hb4
      have hbw4 := bStep hbw3 hb4
      clear bm3 bp3 bo3 br3 hg3 hbw3 hb4 cm co cp P2
      obtain ⟨N10, e10⟩ : ∃ N10, N10 = w4.heap.size := ⟨_, rfl⟩
      obtain ⟨w5, hw5⟩ : ∃ w5 : World, w5 = w4.alloc (.cells #[.int .u64 ((limb 0 (l) : Nat) : Int), .int .u64 ((limb 1 (l) : Nat) : Int), .int .u64 ((limb 2 (l) : Nat) : Int), .int .u64 ((limb 3 (l) : Nat) : Int)] 49) := ⟨_, rfl⟩
      have bm5 : Blk w5 49 w.heap.size (fun i => limb i m) := by rw [hw5]; exact bm4.alloc _
      have bo5 : Blk w5 49 N9 (fun i => limb i q) := by rw [hw5]; exact bo4.alloc _
      have br5 : Blk w5 49 (w.heap.size + 1 + 1) (fun _ => 0) := by rw [hw5]; exact br4.alloc _
      have bl5 : Blk w5 49 N10 (fun i => limb i l) := by rw [hw5]; exact Blk.newAt _ _ _ (fun i => limb i l) e10
      have hg5 : Glob w5 := by rw [hw5]; exact hg4.alloc _
      have hbw5 : Below w.heap.size w w5 := by rw [hw5]; exact bAlloc hbw4 _
      have r10 : N9 < N10 := by have := bo4.lt; omega
      go_upto_region 6 with fail
      rw [← hw5, ← e10]
      clear hw5 e10 bm4 bo4 br4 hg4 hbw4
      have cm := bm5.cell
      go_wp2_with fail
      refine (UR _ hg5).mono ?_
      rintro e w6 ⟨rfl, hb6⟩
      have bm6 := bm5.belowAll hb6; have bo6 := bo5.belowAll hb6; have br6 := br5.belowAll hb6; have bl6 := bl5.belowAll hb6; have hg6 := hg5.below hb6
      have hbw6 := bStep hbw5 hb6
      clear bm5 bo5 br5 bl5 hg5 hbw5 hb6 cm UR
      obtain ⟨N11, e11⟩ : ∃ N11, N11 = w6.heap.size := ⟨_, rfl⟩
      obtain ⟨w7, hw7⟩ : ∃ w7 : World, w7 = w6.alloc (.cells #[.int .u64 ((limb 0 (z) : Nat) : Int), .int .u64 ((limb 1 (z) : Nat) : Int), .int .u64 ((limb 2 (z) : Nat) : Int), .int .u64 ((limb 3 (z) : Nat) : Int)] 49) := ⟨_, rfl⟩
      have bm7 : Blk w7 49 w.heap.size (fun i => limb i m) := by rw [hw7]; exact bm6.alloc _
      have bo7 : Blk w7 49 N9 (fun i => limb i q) := by rw [hw7]; exact bo6.alloc _
      have br7 : Blk w7 49 (w.heap.size + 1 + 1) (fun _ => 0) := by rw [hw7]; exact br6.alloc _
      have bl7 : Blk w7 49 N10 (fun i => limb i l) := by rw [hw7]; exact bl6.alloc _
      have bs7 : Blk w7 49 N11 (fun i => limb i z) := by rw [hw7]; exact Blk.newAt _ _ _ (fun i => limb i z) e11
      have hg7 : Glob w7 := by rw [hw7]; exact hg6.alloc _
      have hbw7 : Below w.heap.size w w7 := by rw [hw7]; exact bAlloc hbw6 _
      have r11 : N10 < N11 := by have := bl6.lt; omega
      go_upto_block 0 with fail
      rw [← hw7, ← e11]
      clear hw7 e11 bm6 bo6 br6 bl6 hg6 hbw6
      go_wp2_with fail
      go_loopw [12] (fun tv wr => ∃ ro le st tu : Nat, tv = .int .i64 (tu : Int) ∧ Hid (PInv m x o S ro le st tu) ∧ Below w.heap.size w wr ∧ Glob wr ∧ Blk wr 49 w.heap.size (fun i => limb i m) ∧ Blk wr 49 (w.heap.size + 1 + 1) (fun _ => 0) ∧ Blk wr 49 N9 (fun i => limb i ro) ∧ Blk wr 49 N10 (fun i => limb i le) ∧ Blk wr 49 N11 (fun i => limb i st)) (fun tv _ => (intOf tv).toNat)
      case atStart => exact ⟨q, l, z, S, rfl, HI, hbw7, hg7, bm7, br7, bo7, bl7, bs7⟩
      case round =>
        obtain ⟨ro, le, st, tu, rfl, hI, hbw0, hg0, bm0, br0, bo0, bl0, bs0⟩ := hrel
        clear bm7 br7 bo7 bl7 bs7 hbw7 hg7 HI
        have lro := hI.out.1; have lle := hI.out.2.1; have lst := hI.out.2.2.1; have ltu := hI.out.2.2.2.1; have ltS := hI.out.2.2.2.2.1
        have hS2 := HS.out.2
        have NE := fun w => neqS1 le (by omega) w
        have cl := bl0.cell; have cg := hg0.2.2
        by_cases hl1 : le = 1
        · have HF : Hid (ro * ro % m = x) := by
            show _ = _
            have := hI.out
            rw [hl1] at this
            exact this.fin hx
          rw [show decide (le = 1) = true from by simp [hl1]] at NE
          clear hl1 hI PP SQ OL
          have co := bo0.cell; have cr := br0.cell; have fr := br0.frozen
          go_wp2
          refine bodyPost_ret (v := .tuple #[.agg #[.int .u64 ((limb 0 (ro) : Nat) : Int), .int .u64 ((limb 1 (ro) : Nat) : Int), .int .u64 ((limb 2 (ro) : Nat) : Int), .int .u64 ((limb 3 (ro) : Nat) : Int)], .bool true]) (by simp [results, Tryd.results46, go_sem, cr]) rfl ⟨Or.inl ⟨ro, lro, HF.out, rfl⟩, ?_⟩
          repeat (first | with_reducible exact hbw0 | with_reducible refine Below.setCell ?_ (by first | omega | (simp; omega) | simp) _)
        · rw [show decide (le = 1) = false from by simp [hl1]] at NE
          have HL1 := (show Hid _ from hl1)
          clear hl1
          have OL1 := fun w hg => OL le tu lle (by omega) w hg
          have cm := bm0.cell
          go_wp2_with fail
          refine (OL1 _ hg0).mono ?_
          rintro e w1 ⟨⟨k, hk, rfl, hkn, hk1⟩, hb1⟩
          have bm1 := bm0.belowAll hb1; have br1 := br0.belowAll hb1; have bo1 := bo0.belowAll hb1; have bl1 := bl0.belowAll hb1; have bs1 := bs0.belowAll hb1; have hg1 := hg0.below hb1
          have hbw1 := bStep hbw0 hb1
          have HKN := (show Hid _ from hkn); have HK1 := (show Hid _ from hk1)
          clear bm0 br0 bo0 bl0 bs0 hg0 hbw0 hb1 cm cl cg NE OL OL1 hkn hk1
          by_cases hkt : k = tu
          · have HN : Hid (powM m x (o * 2 ^ (S - 1)) ≠ 1) := by
              refine hI.out.none (fun j hj => ?_)
              exact HKN.out j (by omega)
            have hkb : ((k : Int) == (tu : Int)) = true := by rw [beq_iff_eq]; omega
            clear hkt hI PP SQ HKN HK1
            have cr := br1.cell; have fr := br1.frozen
            go_wp2
            refine bodyPost_ret (v := .tuple #[.agg #[.int .u64 0, .int .u64 0, .int .u64 0, .int .u64 0], .bool false]) (by simp [results, Tryd.results46, go_sem, cr]) rfl ⟨Or.inr ⟨HX0.out, HN.out, rfl⟩, ?_⟩
            repeat (first | with_reducible exact hbw1 | with_reducible refine Below.setCell ?_ (by first | omega | (simp; omega) | simp) _)
          · have hkb : ((k : Int) == (tu : Int)) = false := by rw [beq_eq_false_iff_ne]; omega
            have hkl : k < tu := by omega
            have HP : Hid (PInv m x o S (ro * sqs m st (tu - k - 1) % m) (le * (sqs m st (tu - k - 1) * sqs m st (tu - k - 1) % m) % m) (sqs m st (tu - k - 1) * sqs m st (tu - k - 1) % m) k) := hI.out.step HX.out hkl (HK1.out hkl) HL1.out HKN.out
            have hki : (tu : Int) - (k : Int) - 1 = ((tu - k - 1 : Nat) : Int) := by omega
            have lss := sqs_lt m st (tu - k - 1) hm0
            have S1 := fun w => SQ st (tu - k - 1) lst (by omega) w
            obtain ⟨u, eu⟩ : ∃ u, u = sqs m st (tu - k - 1) := ⟨_, rfl⟩
            rw [← eu] at HP lss S1
            have M1 := fun w => PP ro u lro lss w
            have M2 := fun w => PP u u lss lss w
            have l2 := mul_lt_mod m u u hm0
            obtain ⟨v, ev⟩ : ∃ v, v = u * u % m := ⟨_, rfl⟩
            rw [← ev] at HP M2 l2
            have M3 := fun w => PP le v lle l2 w
            obtain ⟨ro2, er2⟩ : ∃ ro2, ro2 = ro * u % m := ⟨_, rfl⟩
            rw [← er2] at HP M1
            obtain ⟨le2, el2⟩ : ∃ le2, le2 = le * v % m := ⟨_, rfl⟩
            rw [← el2] at HP M3
            clear eu ev er2 el2 hI hkt HK1 HKN HL1 PP SQ
            obtain ⟨d, ed⟩ : ∃ d, d = tu - k - 1 := ⟨_, rfl⟩
            rw [← ed] at hki S1
            clear ed
            have cm := bm1.cell; have cs := bs1.cell
            go_wp2_with fail
            refine (S1 _).mono ?_
            rintro e w2 ⟨rfl, hb2⟩
            have bm2 := bm1.belowAll hb2; have br2 := br1.belowAll hb2; have bo2 := bo1.belowAll hb2; have bl2 := bl1.belowAll hb2; have bs2 := bs1.belowAll hb2; have hg2 := hg1.below hb2
            have hbw2 := bStep hbw1 hb2
            clear bm1 br1 bo1 bl1 bs1 hbw1 hb2 hg1 cm cs
            have ct := bs2.cell; have ft := bs2.frozen
            go_upto_region 12 with fail
            obtain ⟨w3, hw3⟩ : ∃ w3 : World, w3 = (((w2.setCell ⟨N11, 0, none⟩ (.int .u64 ((limb 0 u : Nat) : Int))).setCell ⟨N11, 1, none⟩ (.int .u64 ((limb 1 u : Nat) : Int))).setCell ⟨N11, 2, none⟩ (.int .u64 ((limb 2 u : Nat) : Int))).setCell ⟨N11, 3, none⟩ (.int .u64 ((limb 3 u : Nat) : Int)) := ⟨_, rfl⟩
            have bm3 : Blk w3 49 w.heap.size (fun i => limb i m) := by rw [hw3]; exact bm2.other4 (by omega) _ _ _ _
            have br3 : Blk w3 49 (w.heap.size + 1 + 1) (fun _ => 0) := by rw [hw3]; exact br2.other4 (by omega) _ _ _ _
            have bo3 : Blk w3 49 N9 (fun i => limb i ro) := by rw [hw3]; exact bo2.other4 (by omega) _ _ _ _
            have bl3 : Blk w3 49 N10 (fun i => limb i le) := by rw [hw3]; exact bl2.other4 (by omega) _ _ _ _
            have bs3 : Blk w3 49 N11 (fun i => limb i u) := by rw [hw3]; exact bs2.set4 (fun i => limb i u)
            have hg3 : Glob w3 := by rw [hw3]; exact glob_set4 hg2 (by omega) _ _ _ _
            have hbw3 : Below w.heap.size w w3 := by rw [hw3]; exact bSet4 hbw2 (by omega) _ _ _ _
            rw [← hw3]
            clear hw3 bm2 br2 bo2 bl2 bs2 hbw2 hg2 ct ft
            have cm := bm3.cell; have co := bo3.cell; have cs := bs3.cell
            go_wp2_with fail
            refine (M1 _).mono ?_
            rintro e w4 ⟨rfl, hb4⟩
            have bm4 := bm3.belowAll hb4; have br4 := br3.belowAll hb4; have bo4 := bo3.belowAll hb4; have bl4 := bl3.belowAll hb4; have bs4 := bs3.belowAll hb4; have hg4 := hg3.below hb4
            have hbw4 := bStep hbw3 hb4
            clear bm3 br3 bo3 bl3 bs3 hbw3 hb4 hg3 cm co cs
            have ct := bo4.cell; have ft := bo4.frozen
            go_upto_region 13 with fail
            obtain ⟨w5, hw5⟩ : ∃ w5 : World, w5 = (((w4.setCell ⟨N9, 0, none⟩ (.int .u64 ((limb 0 ro2 : Nat) : Int))).setCell ⟨N9, 1, none⟩ (.int .u64 ((limb 1 ro2 : Nat) : Int))).setCell ⟨N9, 2, none⟩ (.int .u64 ((limb 2 ro2 : Nat) : Int))).setCell ⟨N9, 3, none⟩ (.int .u64 ((limb 3 ro2 : Nat) : Int)) := ⟨_, rfl⟩
            have bm5 : Blk w5 49 w.heap.size (fun i => limb i m) := by rw [hw5]; exact bm4.other4 (by omega) _ _ _ _
            have br5 : Blk w5 49 (w.heap.size + 1 + 1) (fun _ => 0) := by rw [hw5]; exact br4.other4 (by omega) _ _ _ _
            have bo5 : Blk w5 49 N9 (fun i => limb i ro2) := by rw [hw5]; exact bo4.set4 (fun i => limb i ro2)
            have bl5 : Blk w5 49 N10 (fun i => limb i le) := by rw [hw5]; exact bl4.other4 (by omega) _ _ _ _
            have bs5 : Blk w5 49 N11 (fun i => limb i u) := by rw [hw5]; exact bs4.other4 (by omega) _ _ _ _
            have hg5 : Glob w5 := by rw [hw5]; exact glob_set4 hg4 (by omega) _ _ _ _
            have hbw5 : Below w.heap.size w w5 := by rw [hw5]; exact bSet4 hbw4 (by omega) _ _ _ _
            rw [← hw5]
            clear hw5 bm4 br4 bo4 bl4 bs4 hbw4 hg4 ct ft
            have cm := bm5.cell; have cs := bs5.cell
            go_wp2_with fail
            refine (M2 _).mono ?_
            rintro e w6 ⟨rfl, hb6⟩
            have bm6 := bm5.belowAll hb6; have br6 := br5.belowAll hb6; have bo6 := bo5.belowAll hb6; have bl6 := bl5.belowAll hb6; have bs6 := bs5.belowAll hb6; have hg6 := hg5.below hb6
            have hbw6 := bStep hbw5 hb6
            clear bm5 br5 bo5 bl5 bs5 hbw5 hb6 hg5 cm cs
            have ct := bs6.cell; have ft := bs6.frozen
            go_upto_region 14 with fail
            obtain ⟨w7, hw7⟩ : ∃ w7 : World, w7 = (((w6.setCell ⟨N11, 0, none⟩ (.int .u64 ((limb 0 v : Nat) : Int))).setCell ⟨N11, 1, none⟩ (.int .u64 ((limb 1 v : Nat) : Int))).setCell ⟨N11, 2, none⟩ (.int .u64 ((limb 2 v : Nat) : Int))).setCell ⟨N11, 3, none⟩ (.int .u64 ((limb 3 v : Nat) : Int)) := ⟨_, rfl⟩
            have bm7 : Blk w7 49 w.heap.size (fun i => limb i m) := by rw [hw7]; exact bm6.other4 (by omega) _ _ _ _
            have br7 : Blk w7 49 (w.heap.size + 1 + 1) (fun _ => 0) := by rw [hw7]; exact br6.other4 (by omega) _ _ _ _
            have bo7 : Blk w7 49 N9 (fun i => limb i ro2) := by rw [hw7]; exact bo6.other4 (by omega) _ _ _ _
            have bl7 : Blk w7 49 N10 (fun i => limb i le) := by rw [hw7]; exact bl6.other4 (by omega) _ _ _ _
            have bs7 : Blk w7 49 N11 (fun i => limb i v) := by rw [hw7]; exact bs6.set4 (fun i => limb i v)
            have hg7 : Glob w7 := by rw [hw7]; exact glob_set4 hg6 (by omega) _ _ _ _
            have hbw7 : Below w.heap.size w w7 := by rw [hw7]; exact bSet4 hbw6 (by omega) _ _ _ _
            rw [← hw7]
            clear hw7 bm6 br6 bo6 bl6 bs6 hbw6 hg6 ct ft
            have cm := bm7.cell; have cl := bl7.cell; have cs := bs7.cell
            go_wp2_with fail
            refine (M3 _).mono ?_
            rintro e w8 ⟨rfl, hb8⟩
            have bm8 := bm7.belowAll hb8; have br8 := br7.belowAll hb8; have bo8 := bo7.belowAll hb8; have bl8 := bl7.belowAll hb8; have bs8 := bs7.belowAll hb8; have hg8 := hg7.below hb8
            have hbw8 := bStep hbw7 hb8
            clear bm7 br7 bo7 bl7 bs7 hbw7 hb8 hg7 cm cl cs
            have ct := bl8.cell; have ft := bl8.frozen
            go_wp2
            go_roundw
            case measure => simp [intOf]; omega
            case rel =>
              exact ⟨ro2, le2, v, k, rfl, HP, bSet4 hbw8 (by omega) _ _ _ _, glob_set4 hg8 (by omega) _ _ _ _, bm8.other4 (by omega) _ _ _ _, br8.other4 (by omega) _ _ _ _, bo8.other4 (by omega) _ _ _ _, bl8.set4 (fun i => limb i le2), bs8.other4 (by omega) _ _ _ _⟩

end Go.Proofs.YtlndeghggdpmaacDoor
