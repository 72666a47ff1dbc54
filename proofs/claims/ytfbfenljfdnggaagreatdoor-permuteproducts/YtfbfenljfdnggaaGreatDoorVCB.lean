/- What word.guess and word.nextRem do. -/
import Derived.Test.YtfbfenljfdnggaaGreatDoorVCore4
import Derived.Test.YtfbfenljfdnggaaGreatDoorVBN
import Derived.Deep.LoopGhost
import Derived.Deep.RegionWith
import Derived.Deep.RegionHeld3
import Derived.Deep.DeepCutAuto
namespace Go.Proofs.YtfbfenljfdnggaaGreatDoor
open Go.RowKit
set_option maxHeartbeats 400000 in
/-- word.guess: the quotient of two words by a word, or the greatest word. -/
theorem guess_any (h l d : Nat) (hl : l < 18446744073709551616) (hd : d < 18446744073709551616) (w : World) :
    Calls Tryz.prog 189 #[.int .u64 (h : Int), .int .u64 (l : Int), .int .u64 (d : Int)] w fun e w' => e = .returned (.int .u64 ((guessN h l d : Nat) : Int)) ∧ Below w.heap.size w w' := by
  by_cases hc : d ≤ h
  · have e : guessN h l d = 18446744073709551616 - 1 := by simp [guessN, hc]
    rw [e]
    clear e
    have hc' : (d : Int) ≤ (h : Int) := by omega
    go_enter Tryz.func189, Tryz.ntmps189
    go_wp2_with fail
    go_ret
    exact ⟨rfl, Below.refl _ _⟩
  · have e : guessN h l d = divQ h l d := by simp [guessN, hc, divQ]
    rw [e]
    clear e
    have hc' : ¬ (d : Int) ≤ (h : Int) := by omega
    go_enter Tryz.func189, Tryz.ntmps189
    go_wp2_with fail
    refine (div64_any h l d (by omega) hd hl _).mono ?_
    rintro e w' ⟨rfl, hb⟩
    go_wp2
    go_ret
    exact ⟨rfl, hb⟩
section
variable {W w1 : World} {n : Nat} {f g : Nat → Nat}
theorem two_below (hb : Below W.heap.size W w1) (h : (∀ i, i < 4 → W.cell? ⟨n, i, none⟩ = some (.int .u64 ((f i : Nat) : Int))) ∧ (∀ i, i < 4 → W.cell? ⟨n + 1, i, none⟩ = some (.int .u64 ((g i : Nat) : Int)))) :
    (∀ i, i < 4 → w1.cell? ⟨n, i, none⟩ = some (.int .u64 ((f i : Nat) : Int))) ∧ (∀ i, i < 4 → w1.cell? ⟨n + 1, i, none⟩ = some (.int .u64 ((g i : Nat) : Int))) := ⟨cells_below hb h.1, cells_below hb h.2⟩
theorem two_alloc (o : Obj) (h : (∀ i, i < 4 → W.cell? ⟨n, i, none⟩ = some (.int .u64 ((f i : Nat) : Int))) ∧ (∀ i, i < 4 → W.cell? ⟨n + 1, i, none⟩ = some (.int .u64 ((g i : Nat) : Int)))) :
    (∀ i, i < 4 → (W.alloc o).cell? ⟨n, i, none⟩ = some (.int .u64 ((f i : Nat) : Int))) ∧ (∀ i, i < 4 → (W.alloc o).cell? ⟨n + 1, i, none⟩ = some (.int .u64 ((g i : Nat) : Int))) := ⟨cells_alloc o h.1, cells_alloc o h.2⟩
theorem two_re (o o' : Obj) (hn : n + 1 < W.heap.size) (h : (∀ i, i < 4 → (W.alloc o).cell? ⟨n, i, none⟩ = some (.int .u64 ((f i : Nat) : Int))) ∧ (∀ i, i < 4 → (W.alloc o).cell? ⟨n + 1, i, none⟩ = some (.int .u64 ((g i : Nat) : Int)))) :
    (∀ i, i < 4 → (W.alloc o').cell? ⟨n, i, none⟩ = some (.int .u64 ((f i : Nat) : Int))) ∧ (∀ i, i < 4 → (W.alloc o').cell? ⟨n + 1, i, none⟩ = some (.int .u64 ((g i : Nat) : Int))) := by
  refine two_alloc o' ⟨fun i hi => ?_, fun i hi => ?_⟩
  · rw [← (acell (w := W) (Nat.le_refl _)).1 o n i (by omega)]; exact h.1 i hi
  · rw [← (acell (w := W) (Nat.le_refl _)).1 o (n + 1) i hn]; exact h.2 i hi
theorem two_far (r : Nat) (v0 v1 v2 v3 : Value) (hr : n + 1 < r) (h : (∀ i, i < 4 → W.cell? ⟨n, i, none⟩ = some (.int .u64 ((f i : Nat) : Int))) ∧ (∀ i, i < 4 → W.cell? ⟨n + 1, i, none⟩ = some (.int .u64 ((g i : Nat) : Int)))) :
    (∀ i, i < 4 → ((((W.setCell ⟨r, 0, none⟩ v0).setCell ⟨r, 1, none⟩ v1).setCell ⟨r, 2, none⟩ v2).setCell ⟨r, 3, none⟩ v3).cell? ⟨n, i, none⟩ = some (.int .u64 ((f i : Nat) : Int))) ∧
    (∀ i, i < 4 → ((((W.setCell ⟨r, 0, none⟩ v0).setCell ⟨r, 1, none⟩ v1).setCell ⟨r, 2, none⟩ v2).setCell ⟨r, 3, none⟩ v3).cell? ⟨n + 1, i, none⟩ = some (.int .u64 ((g i : Nat) : Int))) :=
  ⟨cells_far4 v0 v1 v2 v3 (by omega) h.1, cells_far4 v0 v1 v2 v3 (by omega) h.2⟩
end
theorem wrap_sub2 (a b h : Nat) (ha : a < 18446744073709551616) (hb : b < 18446744073709551616) (e : h = (a + 18446744073709551616 - b) % 18446744073709551616) : IntKind.u64.wrap ((a : Int) - (b : Int)) = (h : Int) := by
  rw [IntKind.wrap_u64]; omega
theorem wrap_sub0 (a b h : Nat) (ha : a < 18446744073709551616) (hb : b < 18446744073709551616) (e : h = (a + 18446744073709551616 - b + 18446744073709551616 - (if false = true then 1 else 0)) % 18446744073709551616) : IntKind.u64.wrap ((a : Int) - (b : Int)) = (h : Int) := by
  simp only [Bool.false_eq_true, if_false] at e
  rw [IntKind.wrap_u64]; omega
theorem wrap_sub1 (a b h1 h0 : Nat) (e1 : h1 = (a + 18446744073709551616 - b) % 18446744073709551616) (e : h0 = (a + 18446744073709551616 - b + 18446744073709551616 - (if true = true then 1 else 0)) % 18446744073709551616) : IntKind.u64.wrap ((h1 : Int) - 1) = (h0 : Int) := by
  simp only [if_true] at e
  rw [IntKind.wrap_u64]; omega
theorem mulWordTop (D G : Nat) (hD : D < 115792089237316195423570985008687907853269984665640564039457584007913129639936) (hG : G < 18446744073709551616) : hi256 (D * G) < 18446744073709551616 := by
  have h : D * G ≤ (115792089237316195423570985008687907853269984665640564039457584007913129639936 - 1) * (18446744073709551616 - 1) := Nat.mul_le_mul (by omega) (by omega)
  unfold hi256
  generalize D * G = z at *
  omega
set_option maxHeartbeats 4000000 in
/-- word.nextRem: the remainder of a number and a word behind it. -/
theorem nextRem_any (R v D : Nat) (hRD : R < D) (hR : R < 115792089237316195423570985008687907853269984665640564039457584007913129639936) (hv : v < 18446744073709551616) (hD : D < 115792089237316195423570985008687907853269984665640564039457584007913129639936) (w : World) :
    Calls Tryz.prog 158 #[.agg #[.int .u64 ((limb 0 (R) : Nat) : Int), .int .u64 ((limb 1 (R) : Nat) : Int), .int .u64 ((limb 2 (R) : Nat) : Int), .int .u64 ((limb 3 (R) : Nat) : Int)], .int .u64 (v : Int), .agg #[.int .u64 ((limb 0 (D) : Nat) : Int), .int .u64 ((limb 1 (D) : Nat) : Int), .int .u64 ((limb 2 (D) : Nat) : Int), .int .u64 ((limb 3 (D) : Nat) : Int)]] w fun e w' => e = .returned (.agg #[.int .u64 ((limb 0 ((R * 18446744073709551616 + v) % D) : Nat) : Int), .int .u64 ((limb 1 ((R * 18446744073709551616 + v) % D) : Nat) : Int), .int .u64 ((limb 2 ((R * 18446744073709551616 + v) % D) : Nat) : Int), .int .u64 ((limb 3 ((R * 18446744073709551616 + v) % D) : Nat) : Int)]) ∧ Below w.heap.size w w' := by
  go_enter Tryz.func158, Tryz.ntmps158
  go_wp2_with fail
  obtain ⟨w0, hw0⟩ : ∃ w0 : World, w0 = ((w.alloc (.cells #[.int .u64 ((limb 0 (R) : Nat) : Int), .int .u64 ((limb 1 (R) : Nat) : Int), .int .u64 ((limb 2 (R) : Nat) : Int), .int .u64 ((limb 3 (R) : Nat) : Int)] 25)).alloc (.cells #[.int .u64 ((limb 0 (D) : Nat) : Int), .int .u64 ((limb 1 (D) : Nat) : Int), .int .u64 ((limb 2 (D) : Nat) : Int), .int .u64 ((limb 3 (D) : Nat) : Int)] 25)).alloc (.cells #[.int .u64 0, .int .u64 0, .int .u64 0, .int .u64 0] 25) := ⟨_, rfl⟩
  have bR : Blk w0 25 w.heap.size (fun i => limb i R) := by rw [hw0]; exact ((Blk.newAt _ _ _ (fun i => limb i R) rfl).alloc _).alloc _
  have bD : Blk w0 25 (w.heap.size + 1) (fun i => limb i D) := by rw [hw0]; exact (Blk.newAt _ _ _ (fun i => limb i D) (by simp)).alloc _
  have b2 : Blk w0 25 (w.heap.size + 1 + 1) (fun _ => 0) := by rw [hw0]; exact Blk.newAt _ _ _ (fun _ => 0) (by simp)
  have hb0 : Below w.heap.size w w0 := by
    rw [hw0]
    repeat (first | with_reducible exact Below.refl _ _ | with_reducible refine Below.alloc ?_ (by first | omega | (simp; omega) | simp) _)
  rw [← hw0]
  clear hw0
  have hz0 := b2.lt
  go_cut [7, 8] (fun pr ov wx => ∃ r : Nat, pr = .pointer (some ⟨r, 0, none⟩) ∧ ov = .int .u64 ((hi256 (D * guessN (limb 3 R) (limb 2 R) (limb 3 D)) : Nat) : Int) ∧ w0.heap.size ≤ r ∧
        Blk wx 25 r (fun i => limb i (lo256 (D * guessN (limb 3 R) (limb 2 R) (limb 3 D)))) ∧ Below w0.heap.size w0 wx)
  case first =>
    go_region_held3 (fun w' => (∀ i, i < 4 → w'.cell? ⟨w.heap.size, i, none⟩ = some (.int .u64 ((limb i R : Nat) : Int))) ∧ (∀ i, i < 4 → w'.cell? ⟨w.heap.size + 1, i, none⟩ = some (.int .u64 ((limb i D : Nat) : Int))))
      (first | with_reducible exact two_below hb2 (by with_reducible assumption) | with_reducible exact two_below hb1 (by with_reducible assumption) | with_reducible exact two_alloc _ (by with_reducible assumption) | with_reducible exact two_re _ _ (by omega) (by with_reducible assumption) | with_reducible exact two_far _ _ _ _ _ (by omega) (by with_reducible assumption) | with_reducible exact ⟨bR.drew.cell, bD.drew.cell⟩ | with_reducible exact ⟨(bR.alloc _).drew.cell, (bD.alloc _).drew.cell⟩)
      (first | (go_at_call 189; refine (guess_any (limb 3 R) (limb 2 R) (limb 3 D) (limb_lt _ _) (limb_lt _ _) _).mono ?_; rintro e w1 ⟨rfl, hb1⟩; obtain ⟨hc1, hf1⟩ := bcell hb1; have hz1 := hb1.size; try simp at hz1; try (have hy1 : w0.heap.size < w1.heap.size := by omega)) | (go_at_call 188; refine (mulWord_any D (guessN (limb 3 R) (limb 2 R) (limb 3 D)) hD (guessN_lt _ _ _ (limb_lt _ _)) _).mono ?_; rintro e w2 ⟨rfl, hb2⟩; obtain ⟨hc2, hf2⟩ := bcell hb2; have hz2 := hb2.size; try simp at hz2))
    all_goals (go_wp2_with fail; go_meet)
    · refine ⟨_, rfl, rfl, by omega, ?_, ?_⟩
      · exact Blk.new w2 _ (fun i => limb i (lo256 (D * guessN (limb 3 R) (limb 2 R) (limb 3 D))))
      · exact ((Below.refl w0.heap.size w0).drew.trans (hb1.trans (hb2.mono (show w0.heap.size ≤ w1.heap.size by omega)))).alloc (by omega) _
    · refine ⟨_, rfl, rfl, by omega, ?_, ?_⟩
      · exact ((Blk.new w1 _ (fun _ => 0)).belowAll hb2).set4 (fun i => limb i (lo256 (D * guessN (limb 3 R) (limb 2 R) (limb 3 D))))
      · have hb3 : Below w0.heap.size w0 w2 := ((Below.refl w0.heap.size w0).drew.trans hb1).trans ((((Below.refl w1.heap.size w1).alloc (Nat.le_refl _) _).trans (hb2.mono (by simp))).mono (by omega))
        exact (((hb3.setCell (by dsimp only; omega) _).setCell (by dsimp only; omega) _).setCell (by dsimp only; omega) _).setCell (by dsimp only; omega) _
    · refine ⟨_, rfl, rfl, by omega, ?_, ?_⟩
      · exact (((Blk.new w0 _ (fun _ => 0)).drew.belowAll hb1).belowAll hb2).set4 (fun i => limb i (lo256 (D * guessN (limb 3 R) (limb 2 R) (limb 3 D))))
      · have hb3 : Below w0.heap.size w0 w2 := (((Below.refl w0.heap.size w0).alloc (Nat.le_refl _) _).drew.trans (hb1.mono (by simp))).trans (hb2.mono (by omega))
        exact (((hb3.setCell (by dsimp only; omega) _).setCell (by dsimp only; omega) _).setCell (by dsimp only; omega) _).setCell (by dsimp only; omega) _
  case rest =>
    obtain ⟨r, rfl, rfl, hr, bP, hbx⟩ := hcut
    obtain ⟨X, hX, eN, x0, x1, x2, x3⟩ := shift_in R v hR hv
    have bR1 := bR.belowAll hbx; have bD1 := bD.belowAll hbx; have b21 := b2.belowAll hbx
    have hb01 := hb0.trans (hbx.mono (by have := hb0.size; omega))
    clear bR bD b2 hb0
    have cR := bR1.cell; have cP := bP.cell
    have hg := guessN_lt (limb 3 R) (limb 2 R) (limb 3 D) (limb_lt _ _)
    have hge := guess_ge R v D hRD hD hv
    obtain ⟨G, eG⟩ : ∃ G, G = guessN (limb 3 R) (limb 2 R) (limb 3 D) := ⟨_, rfl⟩
    rw [← eG] at hg hge cP bP ⊢
    have hP := mulWordTop D G hD hg
    have hst := nr_start (R * 18446744073709551616 + v) D G X (limb 3 R) (lo256 (D * G)) (hi256 (D * G)) (by omega) hD eN hX (split256 _) (lo256_lt _) hP hg hge
    have HI := (show Hid _ from hst); clear hst hge eN
    have hsub := fun W => sub_any X (lo256 (D * G)) hX (lo256_lt _) W
    rw [← x0, ← x1, ← x2, ← x3] at hsub
    have HS := (show Hid _ from hsub); clear hsub x0 x1 x2 x3 eG
    go_wp2_with fail
    refine (HS.out _).mono ?_
    rintro e w2 ⟨rfl, hb2⟩
    have bR2 := bR1.belowAll hb2; have bD2 := bD1.belowAll hb2; have b22 := b21.belowAll hb2
    have hb02 := hb01.trans (hb2.mono (by have := hb01.size; omega))
    clear bR1 bD1 b21 hb01 cR cP bP HS hb2 hbx
    have hz2 := b22.lt
    have cR2 := bR2.cell
    obtain ⟨ha2, hg2⟩ := acell (w := w2) (n := w.heap.size + 1 + 1 + 1) (by omega)
    have hlim := limb_lt 3 R
    obtain ⟨h0, eh0⟩ : ∃ h0, h0 = (limb 3 R + 18446744073709551616 - hi256 (D * G) + 18446744073709551616 - (if below256 X (lo256 (D * G)) then 1 else 0)) % 18446744073709551616 := ⟨_, rfl⟩
    rw [← eh0] at HI
    cases hov : below256 X (lo256 (D * G))
    case' false =>
      rw [hov] at eh0
      have k1 : IntKind.u64.wrap (((limb 3 R : Nat) : Int) - ((hi256 (D * G) : Nat) : Int)) = (h0 : Int) := wrap_sub0 _ _ _ hlim hP eh0
      clear eh0 hov
      go_wp2
    case' true =>
      rw [hov] at eh0
      obtain ⟨h1, eh1⟩ : ∃ h1, h1 = (limb 3 R + 18446744073709551616 - hi256 (D * G)) % 18446744073709551616 := ⟨_, rfl⟩
      have k1 : IntKind.u64.wrap (((limb 3 R : Nat) : Int) - ((hi256 (D * G) : Nat) : Int)) = (h1 : Int) := wrap_sub2 _ _ _ hlim hP eh1
      have k2 : IntKind.u64.wrap ((h1 : Int) - 1) = (h0 : Int) := wrap_sub1 _ _ _ _ eh1 eh0
      clear eh0 eh1 hov
      go_wp2
    all_goals (
      go_loopg [11] (G - (R * 18446744073709551616 + v) / D) (fun t hg wr => ∃ T h : Nat, hg = .int .u64 (h : Int) ∧ Hid (NRInv (R * 18446744073709551616 + v) D t T h) ∧ Below w.heap.size w wr ∧ Blk wr 25 (w.heap.size + 1) (fun i => limb i D) ∧
        Blk wr 25 (w.heap.size + 1 + 1) (fun _ => 0) ∧ Blk wr 25 w2.heap.size (fun i => limb i T))
      case atStart =>
        exact ⟨_, h0, rfl, HI, hb02.alloc (by omega) _, bD2.alloc _, b22.alloc _, Blk.new w2 _ (fun i => limb i (sub256 X (lo256 (D * G))))⟩
      case round =>
        obtain ⟨T, h, rfl, hI, hbr, bDr, b2r, bTr⟩ := hrel
        clear ha2 hg2 cR2 bR2 bD2 b22
        have hT := hI.out.1
        have hzr := bTr.lt
        by_cases hg0 : gk = 0
        · have hz := nr_zero (by omega) hD hg0 hI.out
          obtain ⟨hz1, hz2⟩ := hz
          subst hz1
          rw [hz2] at bTr
          clear hz2 hT
          have c2 := b2r.cell; have f2 := b2r.frozen; have cT := bTr.cell
          go_wp2
          refine bodyPost_ret (v := .agg #[.int .u64 ((limb 0 ((R * 18446744073709551616 + v) % D) : Nat) : Int), .int .u64 ((limb 1 ((R * 18446744073709551616 + v) % D) : Nat) : Int), .int .u64 ((limb 2 ((R * 18446744073709551616 + v) % D) : Nat) : Int), .int .u64 ((limb 3 ((R * 18446744073709551616 + v) % D) : Nat) : Int)]) (by simp [results, Tryz.results158, go_sem, c2]) rfl ⟨rfl, ?_⟩
          repeat (first | with_reducible exact hbr | with_reducible refine Below.setCell ?_ (by first | omega | (simp; omega) | simp) _)
        · have hh : ((h : Int) != 0) = true := by have := nr_more hD hg0 hI.out; rw [bne_iff_ne]; omega
          have hIs := nr_step (by omega) hD hg0 hI.out
          have HIs := (show Hid _ from hIs); clear hIs
          have cD := bDr.cell; have cT := bTr.cell
          go_wp2_with fail
          refine (add_any T D hT hD _).mono ?_
          rintro e w3 ⟨rfl, hb3⟩
          have bD3 := bDr.belowAll hb3; have b23 := b2r.belowAll hb3; have bT3 := bTr.belowAll hb3
          have hb4 := hbr.trans (hb3.mono hbr.size)
          clear bDr b2r bTr cD cT hb3 hbr
          have cT3 := bT3.cell; have fT3 := bT3.frozen
          have hlt := hI.out.2.1
          cases hov : over256 T D
          · go_wp2
            go_roundg (gk - 1)
            case measure => omega
            case rel =>
              refine ⟨_, h, rfl, ?_, ?_, ?_, ?_, bT3.set4 (fun i => limb i (add256 T D))⟩
              · have := HIs.out; rw [hov] at this; simp only [Bool.false_eq_true, if_false, Nat.add_zero, Nat.mod_eq_of_lt hlt] at this; exact this
              · exact (((hb4.setCell (by dsimp only; omega) _).setCell (by dsimp only; omega) _).setCell (by dsimp only; omega) _).setCell (by dsimp only; omega) _
              · exact (((bD3.other (by dsimp only; omega) _).other (by dsimp only; omega) _).other (by dsimp only; omega) _).other (by dsimp only; omega) _
              · exact (((b23.other (by dsimp only; omega) _).other (by dsimp only; omega) _).other (by dsimp only; omega) _).other (by dsimp only; omega) _
          · have k3 : IntKind.u64.wrap ((h : Int) + 1) = (((h + 1) % 18446744073709551616 : Nat) : Int) := by rw [IntKind.wrap_u64]; omega
            obtain ⟨h2, eh2⟩ : ∃ h2, h2 = (h + 1) % 18446744073709551616 := ⟨_, rfl⟩
            rw [← eh2] at k3
            have E2 := (show Hid _ from eh2); clear eh2
            go_wp2
            go_roundg (gk - 1)
            case measure => omega
            case rel =>
              refine ⟨_, h2, rfl, ?_, ?_, ?_, ?_, bT3.set4 (fun i => limb i (add256 T D))⟩
              · have := HIs.out; rw [hov] at this; simp only [if_true] at this; rw [E2.out]; exact this
              · exact (((hb4.setCell (by dsimp only; omega) _).setCell (by dsimp only; omega) _).setCell (by dsimp only; omega) _).setCell (by dsimp only; omega) _
              · exact (((bD3.other (by dsimp only; omega) _).other (by dsimp only; omega) _).other (by dsimp only; omega) _).other (by dsimp only; omega) _
              · exact (((b23.other (by dsimp only; omega) _).other (by dsimp only; omega) _).other (by dsimp only; omega) _).other (by dsimp only; omega) _)
end Go.Proofs.YtfbfenljfdnggaaGreatDoor
/- What word.lengthen, part, shiftUp and zerosAhead do. -/
namespace Go.Proofs.YtfbfenljfdnggaaGreatDoor
open Go.RowKit
set_option maxHeartbeats 1000000 in
theorem lengthen_walk (A B : Nat) (w : World) :
    Calls Tryz.prog 157 #[.agg #[.int .u64 ((limb 0 (A) : Nat) : Int), .int .u64 ((limb 1 (A) : Nat) : Int), .int .u64 ((limb 2 (A) : Nat) : Int), .int .u64 ((limb 3 (A) : Nat) : Int)], .agg #[.int .u64 ((limb 0 (B) : Nat) : Int), .int .u64 ((limb 1 (B) : Nat) : Int), .int .u64 ((limb 2 (B) : Nat) : Int), .int .u64 ((limb 3 (B) : Nat) : Int)]] w fun e w' => e = .returned (.agg #[.int .u64 ((limb 0 A : Nat) : Int), .int .u64 ((limb 1 A : Nat) : Int), .int .u64 ((limb 2 A : Nat) : Int), .int .u64 ((limb 3 A : Nat) : Int), .int .u64 ((limb 0 B : Nat) : Int), .int .u64 ((limb 1 B : Nat) : Int), .int .u64 ((limb 2 B : Nat) : Int), .int .u64 ((limb 3 B : Nat) : Int), .int .u64 0, .int .u64 0, .int .u64 0, .int .u64 0]) ∧ Below w.heap.size w w' := by
  go_enter Tryz.func157, Tryz.ntmps157
  go_wp2
  refine bodyPost_ret (v := .agg #[.int .u64 ((limb 0 A : Nat) : Int), .int .u64 ((limb 1 A : Nat) : Int), .int .u64 ((limb 2 A : Nat) : Int), .int .u64 ((limb 3 A : Nat) : Int), .int .u64 ((limb 0 B : Nat) : Int), .int .u64 ((limb 1 B : Nat) : Int), .int .u64 ((limb 2 B : Nat) : Int), .int .u64 ((limb 3 B : Nat) : Int), .int .u64 0, .int .u64 0, .int .u64 0, .int .u64 0]) (by simp [results, Tryz.results157, go_sem]) rfl ⟨rfl, ?_⟩
  repeat (first | with_reducible exact Below.refl _ _ | with_reducible refine Below.drew ?_ | with_reducible refine Below.alloc ?_ (by first | omega | (simp; omega) | simp) _)
set_option maxHeartbeats 1000000 in
theorem part_walk (L : Nat) (m : Nat) (hm : m = 0 ∨ m = 4) (w : World) :
    Calls Tryz.prog 155 #[.agg #[.int .u64 ((limb 0 (L) : Nat) : Int), .int .u64 ((limb 1 (L) : Nat) : Int), .int .u64 ((limb 2 (L) : Nat) : Int), .int .u64 ((limb 3 (L) : Nat) : Int), .int .u64 ((limb 4 (L) : Nat) : Int), .int .u64 ((limb 5 (L) : Nat) : Int), .int .u64 ((limb 6 (L) : Nat) : Int), .int .u64 ((limb 7 (L) : Nat) : Int), .int .u64 ((limb 8 (L) : Nat) : Int), .int .u64 ((limb 9 (L) : Nat) : Int), .int .u64 ((limb 10 (L) : Nat) : Int), .int .u64 ((limb 11 (L) : Nat) : Int)], .int .i64 (m : Int)] w fun e w' => e = .returned (.agg #[.int .u64 ((limb m L : Nat) : Int), .int .u64 ((limb (m + 1) L : Nat) : Int), .int .u64 ((limb (m + 2) L : Nat) : Int), .int .u64 ((limb (m + 3) L : Nat) : Int)]) ∧ Below w.heap.size w w' := by
  rcases hm with rfl | rfl
  · go_enter Tryz.func155, Tryz.ntmps155
    go_wp2
    go_region
    go_wp2
    refine bodyPost_ret (v := .agg #[.int .u64 ((limb 0 (L) : Nat) : Int), .int .u64 ((limb 1 (L) : Nat) : Int), .int .u64 ((limb 2 (L) : Nat) : Int), .int .u64 ((limb 3 (L) : Nat) : Int)]) (by simp [results, Tryz.results155, go_sem]) rfl ⟨rfl, ?_⟩
    repeat (first | with_reducible exact Below.refl _ _ | with_reducible refine Below.drew ?_ | with_reducible refine Below.alloc ?_ (by first | omega | (simp; omega) | simp) _)
  · go_enter Tryz.func155, Tryz.ntmps155
    go_wp2
    go_region
    go_wp2
    refine bodyPost_ret (v := .agg #[.int .u64 ((limb 4 L : Nat) : Int), .int .u64 ((limb 5 L : Nat) : Int), .int .u64 ((limb 6 L : Nat) : Int), .int .u64 ((limb 7 L : Nat) : Int)]) (by simp [results, Tryz.results155, go_sem]) rfl ⟨rfl, ?_⟩
    repeat (first | with_reducible exact Below.refl _ _ | with_reducible refine Below.drew ?_ | with_reducible refine Below.alloc ?_ (by first | omega | (simp; omega) | simp) _)
theorem wrap_shl (a r : Nat) : IntKind.u64.wrap ((a : Int) * 2 ^ r) = ((a * 2 ^ r % 18446744073709551616 : Nat) : Int) := by rw [pow_cast, wrapM]
theorem or_words (a b r : Nat) (hb : b < 18446744073709551616) : bits BinOp.or IntKind.u64 (((a % 18446744073709551616 : Nat)) : Int) ((b : Int) / 2 ^ r) = (((a % 18446744073709551616) ||| (b / 2 ^ r) : Nat) : Int) := by
  rw [dpow_cast, bits_or_u64_nat _ _ (Nat.mod_lt _ (by decide)) (Nat.lt_of_le_of_lt (Nat.div_le_self _ _) hb)]
set_option maxHeartbeats 2000000 in
/-- word.shiftUp: a number times a power of two, without what is above the twelfth word. -/
theorem shiftUp_any (L n : Nat) (hn : n ≤ 256) (w : World) :
    Calls Tryz.prog 156 #[.agg #[.int .u64 ((limb 0 (L) : Nat) : Int), .int .u64 ((limb 1 (L) : Nat) : Int), .int .u64 ((limb 2 (L) : Nat) : Int), .int .u64 ((limb 3 (L) : Nat) : Int), .int .u64 ((limb 4 (L) : Nat) : Int), .int .u64 ((limb 5 (L) : Nat) : Int), .int .u64 ((limb 6 (L) : Nat) : Int), .int .u64 ((limb 7 (L) : Nat) : Int), .int .u64 ((limb 8 (L) : Nat) : Int), .int .u64 ((limb 9 (L) : Nat) : Int), .int .u64 ((limb 10 (L) : Nat) : Int), .int .u64 ((limb 11 (L) : Nat) : Int)], .int .i64 (n : Int)] w fun e w' => e = .returned (.agg #[.int .u64 ((limb 0 (L * 2 ^ n) : Nat) : Int), .int .u64 ((limb 1 (L * 2 ^ n) : Nat) : Int), .int .u64 ((limb 2 (L * 2 ^ n) : Nat) : Int), .int .u64 ((limb 3 (L * 2 ^ n) : Nat) : Int), .int .u64 ((limb 4 (L * 2 ^ n) : Nat) : Int), .int .u64 ((limb 5 (L * 2 ^ n) : Nat) : Int), .int .u64 ((limb 6 (L * 2 ^ n) : Nat) : Int), .int .u64 ((limb 7 (L * 2 ^ n) : Nat) : Int), .int .u64 ((limb 8 (L * 2 ^ n) : Nat) : Int), .int .u64 ((limb 9 (L * 2 ^ n) : Nat) : Int), .int .u64 ((limb 10 (L * 2 ^ n) : Nat) : Int), .int .u64 ((limb 11 (L * 2 ^ n) : Nat) : Int)]) ∧ Below w.heap.size w w' := by
  obtain ⟨W, eW0⟩ : ∃ W, W = n / 64 := ⟨_, rfl⟩
  have hW : W ≤ 4 := by omega
  have e1 : (n : Int) / 64 = (W : Int) := by omega
  have hr : n % 64 < 64 := Nat.mod_lt _ (by decide)
  have EW := (show Hid _ from eW0); clear eW0
  go_enter Tryz.func156, Tryz.ntmps156
  go_wp2
  clear e1
  go_loopw [15] (fun i wr => ∃ k : Nat, i = .int .i64 (k : Int) ∧ k + W ≤ 12 ∧ Below w.heap.size w wr ∧ BlkN wr 243 w.heap.size 12 (fun i => limb i L) ∧
      BlkN wr 243 (w.heap.size + 1) 12 (fun _ => 0) ∧ BlkN wr 243 (w.heap.size + 1 + 1) 12 (shF L W (n % 64) k)) (fun i _ => 12 - (intOf i).toNat)
  case atStart =>
    refine ⟨0, rfl, by omega, ?_, ?_, ?_, ?_⟩
    · repeat (first | with_reducible exact Below.refl _ _ | with_reducible refine Below.alloc ?_ (by first | omega | (simp; omega) | simp) _)
    · refine ((BlkN.newAt _ _ _ 12 (fun i => limb i L) _ rfl rfl ?_).alloc _).alloc _
      intro i hi
      have h12 : i = 0 ∨ i = 1 ∨ i = 2 ∨ i = 3 ∨ i = 4 ∨ i = 5 ∨ i = 6 ∨ i = 7 ∨ i = 8 ∨ i = 9 ∨ i = 10 ∨ i = 11 := by omega
      rcases h12 with rfl | rfl | rfl | rfl | rfl | rfl | rfl | rfl | rfl | rfl | rfl | rfl <;> rfl
    · refine (BlkN.newAt _ _ _ 12 (fun _ => 0) _ (by simp) rfl ?_).alloc _
      intro i hi
      have h12 : i = 0 ∨ i = 1 ∨ i = 2 ∨ i = 3 ∨ i = 4 ∨ i = 5 ∨ i = 6 ∨ i = 7 ∨ i = 8 ∨ i = 9 ∨ i = 10 ∨ i = 11 := by omega
      rcases h12 with rfl | rfl | rfl | rfl | rfl | rfl | rfl | rfl | rfl | rfl | rfl | rfl <;> rfl
    · refine BlkN.congr (f := fun _ => 0) (BlkN.newAt _ _ _ 12 (fun _ => 0) _ (by simp) rfl ?_) (fun i _ => shF_zero L W (n % 64) i)
      intro i hi
      have h12 : i = 0 ∨ i = 1 ∨ i = 2 ∨ i = 3 ∨ i = 4 ∨ i = 5 ∨ i = 6 ∨ i = 7 ∨ i = 8 ∨ i = 9 ∨ i = 10 ∨ i = 11 := by omega
      rcases h12 with rfl | rfl | rfl | rfl | rfl | rfl | rfl | rfl | rfl | rfl | rfl | rfl <;> rfl
  case round =>
    obtain ⟨k, rfl, hk, hbr, bA, b1, bO⟩ := hrel
    have cA := bA.cell; have cO := bO.cell; have fO := bO.frozen
    have hz := bO.lt
    by_cases hlt : k + W < 12
    · have hkw : (k : Int) < 12 - (W : Int) := by omega
      have hkn : k < 12 := by omega
      have w1 := wrap_shl (limb k L) (n % 64)
      by_cases hk0 : k = 0
      · subst hk0
        have cK := cA 0 (by decide)
        have cKO := cO W (by omega)
        have hv : limb 0 L * 2 ^ (n % 64) % 18446744073709551616 = shW L (n % 64) 0 := by unfold shW; rw [if_pos rfl, Nat.or_zero]
        rw [hv] at w1
        have HV := (show Hid _ from hv); clear hv
        clear cA cO
        go_wp2
        go_roundw
        case measure => simp [intOf]
        case rel =>
          refine ⟨1, rfl, by omega, ?_, bA.other (by dsimp only; omega) _, b1.other (by dsimp only; omega) _, ?_⟩
          · exact hbr.setCell (by dsimp only; omega) _
          · refine (bO.set W (by omega) (shW L (n % 64) 0)).congr ?_
            intro i _
            rw [shF_step]; simp
      · have hk1 : (0 : Int) < (k : Int) := by omega
        have cK := cA k hkn
        have cK1 := cA (k - 1) (by omega)
        have cKO := cO (k + W) hlt
        have eW : ((k : Int) + (W : Int)).toNat = k + W := by omega
        have eK : ((k : Int) - 1).toNat = k - 1 := by omega
        have w2 := or_words (limb k L * 2 ^ (n % 64)) (limb (k - 1) L) (64 - n % 64) (limb_lt _ _)
        have hv : (limb k L * 2 ^ (n % 64) % 18446744073709551616) ||| (limb (k - 1) L / 2 ^ (64 - n % 64)) = shW L (n % 64) k := by unfold shW; rw [if_neg hk0]
        rw [hv] at w2
        have HV := (show Hid _ from hv); clear hv
        obtain ⟨x, hx⟩ : ∃ x, x = limb k L * 2 ^ (n % 64) % 18446744073709551616 := ⟨_, rfl⟩
        rw [← hx] at w1 w2
        clear hx HV
        clear cA cO
        go_wp2
        go_region
        go_wp2
        go_roundw
        case measure => simp [intOf]; omega
        case rel =>
          refine ⟨k + 1, by go_num, by omega, ?_, ?_, ?_, ?_⟩
          · exact ((hbr.setCell (by dsimp only; omega) _).setCell (by dsimp only; omega) _).drew
          · exact (((bA.other (by dsimp only; omega) _).other (by dsimp only; omega) _)).drew
          · exact (((b1.other (by dsimp only; omega) _).other (by dsimp only; omega) _)).drew
          · refine BlkN.drew (((bO.set (k + W) (by omega) x).set (k + W) (by omega) (shW L (n % 64) k)).congr ?_)
            intro i _
            rw [shF_step]
            by_cases hi : i = k + W
            · simp [hi]
            · simp [hi]
    · have hkw : ¬ (k : Int) < 12 - (W : Int) := by omega
      have hk12 : k = 12 - W := by omega
      subst hk12
      have bF := bO.congr (g := fun i => limb i (L * 2 ^ n)) (fun i hi => (shF_limb L n W EW.out i hi (by omega)).symm)
      have c1 := b1.cell; have f1 := b1.frozen; have cF := bF.cell
      clear cA cO bO fO
      go_wp2
      refine bodyPost_ret (v := .agg #[.int .u64 ((limb 0 (L * 2 ^ n) : Nat) : Int), .int .u64 ((limb 1 (L * 2 ^ n) : Nat) : Int), .int .u64 ((limb 2 (L * 2 ^ n) : Nat) : Int), .int .u64 ((limb 3 (L * 2 ^ n) : Nat) : Int), .int .u64 ((limb 4 (L * 2 ^ n) : Nat) : Int), .int .u64 ((limb 5 (L * 2 ^ n) : Nat) : Int), .int .u64 ((limb 6 (L * 2 ^ n) : Nat) : Int), .int .u64 ((limb 7 (L * 2 ^ n) : Nat) : Int), .int .u64 ((limb 8 (L * 2 ^ n) : Nat) : Int), .int .u64 ((limb 9 (L * 2 ^ n) : Nat) : Int), .int .u64 ((limb 10 (L * 2 ^ n) : Nat) : Int), .int .u64 ((limb 11 (L * 2 ^ n) : Nat) : Int)]) (by simp [results, Tryz.results156, go_sem, c1]) rfl ⟨rfl, ?_⟩
      repeat (first | with_reducible exact hbr | with_reducible refine Below.setCell ?_ (by first | omega | (simp; omega) | simp) _)
end Go.Proofs.YtfbfenljfdnggaaGreatDoor
