/- tape.script's give. -/
import Derived.Test.YtcaljepfinfkbaaDoorTC1
import Derived.Test.YtcaljepfinfkbaaDoorK3
namespace Go.Proofs.YtcaljepfinfkbaaDoor
open Go.RowKit

/-- Block S is a script of sort s whose coins lie in block bC. -/
def Scr (w : World) (S bC s : Nat) : Prop := w.heap[S]? = some (.cells #[.int .i64 (s : Int), .pointer (some ⟨bC, 0, none⟩)] 72)
section
variable {w w' : World} {S bC s : Nat}
theorem Scr.lt (h : Scr w S bC s) : S < w.heap.size := (Array.getElem?_eq_some_iff.1 h).1
theorem Scr.cell0 (h : Scr w S bC s) : w.cell? ⟨S, 0, none⟩ = some (.int .i64 (s : Int)) := by unfold Scr at h; simp [World.cell?, h]
theorem Scr.cell1 (h : Scr w S bC s) : w.cell? ⟨S, 1, none⟩ = some (.pointer (some ⟨bC, 0, none⟩)) := by unfold Scr at h; simp [World.cell?, h]
theorem Scr.belowAll (h : Scr w S bC s) (hb : Below w.heap.size w w') : Scr w' S bC s := by unfold Scr; rw [hb.block S h.lt]; exact h
theorem Scr.kept {g : Nat} (h : Scr w S bC s) (hne : S ≠ g) (hk : Kept g w w') : Scr w' S bC s := by unfold Scr; rw [hk.block S h.lt hne]; exact h
theorem Scr.drew (h : Scr w S bC s) : Scr w.drew S bC s := h
end
theorem zEt : (.agg #[.int .u64 ((limb 0 (0) : Nat) : Int), .int .u64 ((limb 1 (0) : Nat) : Int), .int .u64 ((limb 2 (0) : Nat) : Int), .int .u64 ((limb 3 (0) : Nat) : Int)] : Value) = .agg #[.int .u64 0, .int .u64 0, .int .u64 0, .int .u64 0] := by rw [limb_zero, limb_zero, limb_zero, limb_zero]; rfl
theorem addP_Mt (c a b : Nat) : addP c a b < 115792089237316195423570985008687907853269984665640564039457584007913129639936 := Nat.lt_trans (addP_lt c a b) (modN_good c).lt.2.2
set_option maxHeartbeats 4000000 in
theorem give_none (S bC s c : Nat) (o : Option Addr) (w : World) (hS : Scr w S bC s) (h : One1 w 49 bC (.slice o 0 c)) :
    Calls Tryd.prog 80 #[.pointer (some ⟨S, 0, none⟩)] w fun e w' => e = .returned (.tuple #[.agg #[.int .u64 0, .int .u64 0, .int .u64 0, .int .u64 0], .int .i64 81]) ∧ Below w.heap.size w w' := by
  obtain ⟨w0, hw0⟩ : ∃ z : World, z = w.alloc (.cells #[.int .u64 0, .int .u64 0, .int .u64 0, .int .u64 0] 29) := ⟨_, rfl⟩
  have hb0 : Below w.heap.size w w0 := by rw [hw0]; exact bAlloc (Below.refl _ _) _
  have br : Blk w0 29 w.heap.size (fun _ => 0) := by rw [hw0]; exact Blk.newAt _ _ _ (fun _ => 0) rfl
  obtain ⟨N2, e2⟩ : ∃ N, N = w.heap.size := ⟨_, rfl⟩
  rw [← e2] at br
  have c1 := (hS.belowAll hb0).cell1
  have h0 := h.belowAll hb0
  go_enter Tryd.func80, Tryd.ntmps80
  go_upto_region 1 with fail
  rw [← hw0, ← e2]
  have l2 : w.heap.size ≤ N2 := by omega
  clear hw0 e2
  go_wp2_with fail
  refine (next_none bC c o w0 h0).mono ?_
  rintro e w1 ⟨rfl, hb1⟩
  have br1 := (br.belowAll hb1).alloc (.cells #[.int .u64 0, .int .u64 0, .int .u64 0, .int .u64 0] 29)
  have hb2 := bAlloc (bStep hb0 hb1) (.cells #[.int .u64 0, .int .u64 0, .int .u64 0, .int .u64 0] 29)
  clear hb1 hb0 br h0 c1
  obtain ⟨w2, hw2⟩ : ∃ z : World, z = w1.alloc (.cells #[.int .u64 0, .int .u64 0, .int .u64 0, .int .u64 0] 29) := ⟨_, rfl⟩
  rw [← hw2] at br1 hb2
  have cr := br1.cell; have fr := br1.frozen
  obtain ⟨w3, hw3, b3, hk3⟩ := br1.put4 0
  have hw3' : (((w2.setCell ⟨N2, 0, none⟩ (.int .u64 0)).setCell ⟨N2, 1, none⟩ (.int .u64 0)).setCell ⟨N2, 2, none⟩ (.int .u64 0)).setCell ⟨N2, 3, none⟩ (.int .u64 0) = w3 := by
    have := hw3
    rw [limb_zero, limb_zero, limb_zero, limb_zero] at this
    exact this
  have hb3 := bKept hb2 l2 hk3
  have b3' : Blk w3 29 N2 (fun _ => 0) := b3.congr (fun i _ => (limb_zero i).symm)
  have cs := b3'.cell
  clear hw3 hk3 b3
  go_upto_region 2 with fail
  rw [← hw2]
  clear hw2
  go_wp2
  refine bodyPost_ret (v := .tuple #[.agg #[.int .u64 0, .int .u64 0, .int .u64 0, .int .u64 0], .int .i64 81]) (by simp [results, Tryd.results80, go_sem, cs]) rfl ⟨rfl, hb3⟩
set_option maxHeartbeats 8000000 in
set_option maxRecDepth 20000 in
theorem give_some (u : World) (hg : Glob u) (S bC s n cn : Nat) (oa : Option Addr) (f : Nat → Nat) (hs : s < 4) (hn : 0 < n) (hf : f 0 < 115792089237316195423570985008687907853269984665640564039457584007913129639936) (w : World) (hbu : Below u.heap.size u w) (lC : u.heap.size ≤ bC) (hne : S ≠ bC) (hS : Scr w S bC s) (h : One1 w 49 bC (.slice oa n cn)) (hE : Es w (.slice oa n cn) n f) (ha : ∀ g o, oa = some ⟨g, o, none⟩ → g ≠ bC) :
    Calls Tryd.prog 80 #[.pointer (some ⟨S, 0, none⟩)] w fun e w' => (e = .returned (.tuple #[.agg #[.int .u64 ((limb 0 (addP s (f 0) 0) : Nat) : Int), .int .u64 ((limb 1 (addP s (f 0) 0) : Nat) : Int), .int .u64 ((limb 2 (addP s (f 0) 0) : Nat) : Int), .int .u64 ((limb 3 (addP s (f 0) 0) : Nat) : Int)], .int .i64 0]) ∧ ∃ oa', One1 w' 49 bC (.slice oa' (n - 1) (cn - 1)) ∧ Es w' (.slice oa' (n - 1) (cn - 1)) (n - 1) (fun i => f (i + 1)) ∧ Aprt oa' oa bC) ∧ Kept bC w w' ∧ Below u.heap.size u w' := by
  have HG : Hid (Glob u) := hg
  have HFM : Hid (f 0 < 115792089237316195423570985008687907853269984665640564039457584007913129639936) := hf
  obtain ⟨w0, hw0⟩ : ∃ z : World, z = w.alloc (.cells #[.int .u64 0, .int .u64 0, .int .u64 0, .int .u64 0] 29) := ⟨_, rfl⟩
  have hb0 : Below w.heap.size w w0 := by rw [hw0]; exact bAlloc (Below.refl _ _) _
  have br : Blk w0 29 w.heap.size (fun _ => 0) := by rw [hw0]; exact Blk.newAt _ _ _ (fun _ => 0) rfl
  obtain ⟨N2, e2⟩ : ∃ N, N = w.heap.size := ⟨_, rfl⟩
  rw [← e2] at br
  have hS0 := hS.belowAll hb0
  have c1 := hS0.cell1
  have h0 := h.belowAll hb0
  have HE0 : Hid (Es w0 (.slice oa n cn) n f) := hE.below hb0
  have HA : Hid (∀ g o, oa = some ⟨g, o, none⟩ → g ≠ bC) := ha
  have HNB : Hid (0 < n) := hn
  have HS : Hid (s < 4) := hs
  have kC := h.lt; have kS := hS.lt
  have HAL : Hid (∀ g o, oa = some ⟨g, o, none⟩ → g < w.heap.size) := fun g o e => by
    rcases hE with ⟨h1, _⟩ | ⟨b, o', c, hv, _, _, hb, _⟩
    · cases h1; cases e
    · cases hv
      cases e
      exact hb
  clear hg hf hE ha hn hs
  go_enter Tryd.func80, Tryd.ntmps80
  go_upto_region 1 with fail
  rw [← hw0, ← e2]
  have l2 : u.heap.size ≤ N2 := by have := hbu.size; omega
  have l2w : w.heap.size ≤ N2 := by omega
  have nS2 : S ≠ N2 := by omega
  have nC2 : bC ≠ N2 := by omega
  have HN2 : Hid (N2 = w.heap.size) := e2
  clear hw0 e2
  go_wp2_with fail
  refine (next_some bC n cn oa f HNB.out w0 h0 HE0.out HA.out).mono ?_
  rintro e w4 ⟨⟨rfl, oB, h4, hE4, hap⟩, hk40⟩
  have hk4 := (Kept.ofBelow bC hb0).trans hk40
  have hS4 := hS0.kept hne hk40
  have b24 := br.kept nC2.symm hk40
  have hbu4 := bKept (bStep hbu hb0) lC hk40
  have HGN : Hid (∀ g o, oB = some ⟨g, o, none⟩ → g ≠ N2) := fun g o e => by
    obtain ⟨_, o', e'⟩ := hap g o e
    have := HAL.out g o' e'
    have := HN2.out
    omega
  clear h0 HE0 HA br hS0 c1 hk40 hb0 hbu h HAL hS
  obtain ⟨x, ex⟩ : ∃ x, x = f 0 := ⟨_, rfl⟩
  rw [← ex] at HFM ⊢
  have HX : Hid (x = f 0) := ex
  clear ex
  obtain ⟨y, ey⟩ : ∃ y, y = addP s x 0 := ⟨_, rfl⟩
  have HY : Hid (y = addP s x 0) := ey
  have HAD : Hid (∀ w, Glob w → Calls Tryd.prog 43 #[.int .i64 (s : Int), .agg #[.int .u64 ((limb 0 (x) : Nat) : Int), .int .u64 ((limb 1 (x) : Nat) : Int), .int .u64 ((limb 2 (x) : Nat) : Int), .int .u64 ((limb 3 (x) : Nat) : Int)], .agg #[.int .u64 0, .int .u64 0, .int .u64 0, .int .u64 0]] w fun e w' => e = .returned (.agg #[.int .u64 ((limb 0 (y) : Nat) : Int), .int .u64 ((limb 1 (y) : Nat) : Int), .int .u64 ((limb 2 (y) : Nat) : Int), .int .u64 ((limb 3 (y) : Nat) : Int)]) ∧ Below w.heap.size w w') := fun w hg => by
    rw [ey, ← zEt]; exact fAdd_any s x 0 HS.out HFM.out (by decide) w hg
  clear ey
  have hb5 : Below w4.heap.size w4 (w4.alloc (.cells #[.int .u64 ((limb 0 (x) : Nat) : Int), .int .u64 ((limb 1 (x) : Nat) : Int), .int .u64 ((limb 2 (x) : Nat) : Int), .int .u64 ((limb 3 (x) : Nat) : Int)] 29)) := bAlloc (Below.refl _ _) _
  go_upto_region 4 with fail
  obtain ⟨N4, e4⟩ : ∃ N, N = w4.heap.size := ⟨_, rfl⟩
  obtain ⟨w5, hw5⟩ : ∃ z : World, z = w4.alloc (.cells #[.int .u64 ((limb 0 (x) : Nat) : Int), .int .u64 ((limb 1 (x) : Nat) : Int), .int .u64 ((limb 2 (x) : Nat) : Int), .int .u64 ((limb 3 (x) : Nat) : Int)] 29) := ⟨_, rfl⟩
  have b45 : Blk w5 29 N4 (fun i => limb i x) := by rw [hw5, e4]; exact Blk.newAt _ _ _ (fun i => limb i x) rfl
  rw [← hw5] at hb5
  rw [← hw5, ← e4]
  have k2 := b24.lt
  have n42 : N4 ≠ N2 := by omega
  clear hw5 e4
  have hS5 := hS4.belowAll hb5; have b25 := b24.belowAll hb5; have hbu5 := bStep hbu4 hb5
  clear hS4 b24 hbu4 k2
  refine wp_region_Z (fun w' => Scr w' S bC s ∧ Blk w' 29 N4 (fun i => limb i x) ∧ Below u.heap.size u w') 99 (by kernel_rfl) ?_
  obtain ⟨wD, hD⟩ : ∃ x : World, x = w5.drew := ⟨_, rfl⟩
  rw [← hD]
  have hp0_0 : Scr wD S bC s := by rw [hD]; exact hS5.drew
  have hp1_0 : Blk wD 29 N4 (fun i => limb i x) := by rw [hD]; exact b45.drew
  have hp2_0 : Below u.heap.size u wD := by rw [hD]; exact hbu5.drew
  have hlow0 : Below w5.heap.size w5 wD := by rw [hD]; exact (Below.refl _ _).drew
  clear hD
  refine wpZ_take (i := 0) (v := .pointer (some ⟨S, 0, none⟩)) 18 rfl rfl (by kernel_rfl) (by kernel_rfl) (by kernel_rfl) (Or.inr (by decide)) (fun _ _ _ h => h) (Or.inl ⟨by rfl, fun w hSw => by go_simp⟩) ⟨hp0_0, hp1_0, hp2_0⟩ ?_
  simp only [Act.put, List.setIfInBounds_toArray]
  dsimp only [List.set_cons_zero, List.set_cons_succ]
  refine wpZ_take (i := 1) (v := .pointer (some ⟨S, 0, none⟩)) 19 rfl rfl (by kernel_rfl) (by kernel_rfl) (by kernel_rfl) (Or.inr (by decide)) (fun _ _ _ h => h) (Or.inl ⟨by rfl, fun w hSw => by go_simp⟩) ⟨hp0_0, hp1_0, hp2_0⟩ ?_
  simp only [Act.put, List.setIfInBounds_toArray]
  dsimp only [List.set_cons_zero, List.set_cons_succ]
  refine wpZ_take (i := 2) (v := .pointer (some ⟨S, 0, none⟩)) 20 rfl rfl (by kernel_rfl) (by kernel_rfl) (by kernel_rfl) (Or.inr (by decide)) (fun _ _ _ h => h) (Or.inl ⟨by rfl, fun w hSw => by go_simp⟩) ⟨hp0_0, hp1_0, hp2_0⟩ ?_
  simp only [Act.put, List.setIfInBounds_toArray]
  dsimp only [List.set_cons_zero, List.set_cons_succ]
  refine wpZ_take (i := 3) (v := .int .i64 (s : Int)) 21 rfl rfl (by kernel_rfl) (by kernel_rfl) (by kernel_rfl) (Or.inr (by decide)) (fun _ _ _ h => h) (Or.inl ⟨by rfl, fun w hSw => by (have qq := hSw.1.cell0; clear hSw; go_simp)⟩) ⟨hp0_0, hp1_0, hp2_0⟩ ?_
  simp only [Act.put, List.setIfInBounds_toArray]
  dsimp only [List.set_cons_zero, List.set_cons_succ]
  refine wpZ_take (i := 4) (v := .agg #[.int .u64 ((limb 0 (x) : Nat) : Int), .int .u64 ((limb 1 (x) : Nat) : Int), .int .u64 ((limb 2 (x) : Nat) : Int), .int .u64 ((limb 3 (x) : Nat) : Int)]) 22 rfl rfl (by kernel_rfl) (by kernel_rfl) (by kernel_rfl) (Or.inr (by decide)) (fun _ _ _ h => h) (Or.inl ⟨by rfl, fun w hSw => by (have qq := (hSw.2.1).cell; clear hSw; go_simp)⟩) ⟨hp0_0, hp1_0, hp2_0⟩ ?_
  simp only [Act.put, List.setIfInBounds_toArray]
  dsimp only [List.set_cons_zero, List.set_cons_succ]
  refine wpZ_take (i := 5) (v := .agg #[.int .u64 0, .int .u64 0, .int .u64 0, .int .u64 0]) 23 rfl rfl (by kernel_rfl) (by kernel_rfl) (by kernel_rfl) (Or.inr (by decide)) (fun _ _ _ h => h) (Or.inl ⟨by rfl, fun w hSw => by go_simp⟩) ⟨hp0_0, hp1_0, hp2_0⟩ ?_
  simp only [Act.put, List.setIfInBounds_toArray]
  dsimp only [List.set_cons_zero, List.set_cons_succ]
  refine wpZ_one (i := 6) (by kernel_rfl) rfl (fun K hK => ?_)
  go_simp
  refine (HAD.out wD (HG.out.below hp2_0)).mono ?_
  rintro e w6 ⟨rfl, hb6⟩
  have hS6 := (hp0_0).belowAll hb6; have b46 := (hp1_0).belowAll hb6; have hbu6 := bStep hp2_0 hb6
  have hlow6 := bStep hlow0 hb6
  go_wp2_with fail
  refine hK.out _ _ (fun _ => ⟨hS6, b46, hbu6⟩) ?_
  clear hK K hb6
  refine wpZ_one (i := 7) (by kernel_rfl) rfl (fun K hK => ?_)
  have b26 := b25.belowAll hlow6
  have c26 := b26.cell; have f26 := b26.frozen
  obtain ⟨w7, hw7, b27, hk7⟩ := b26.put4 y
  have hS7 := hS6.kept nS2 hk7; have b47 := b46.kept n42 hk7; have hbu7 := bKept hbu6 l2 hk7
  go_simp
  refine hK.out _ _ (fun _ => ⟨hS7, b47, hbu7⟩) ?_
  clear hK K c26 f26 b26
  refine wpZ_take (i := 8) (v := .int .i64 0) 3 rfl rfl (by kernel_rfl) (by kernel_rfl) (by kernel_rfl) (Or.inr (by decide)) (fun _ _ _ h => h) (Or.inl ⟨by rfl, fun w hSw => by go_simp⟩) ⟨hS7, b47, hbu7⟩ ?_
  simp only [Act.put, List.setIfInBounds_toArray]
  dsimp only [List.set_cons_zero, List.set_cons_succ]
  refine wpZ_done (by kernel_rfl) ?_ _
  have hK7 := (Kept.own ((hk4.step hb5).step hlow6) l2w hk7)
  have h7 := ((h4.belowAll hb5).belowAll hlow6).kept nC2 hk7
  have hE7 := ((hE4.below hb5).below hlow6).kept (fun g o m c e => by cases e; exact HGN.out g o rfl) hk7
  have cs := b27.cell
  clear hS7 b47 b27 hk7 hw7
  go_wp2
  refine bodyPost_ret (v := .tuple #[.agg #[.int .u64 ((limb 0 (y) : Nat) : Int), .int .u64 ((limb 1 (y) : Nat) : Int), .int .u64 ((limb 2 (y) : Nat) : Int), .int .u64 ((limb 3 (y) : Nat) : Int)], .int .i64 0]) (by simp [results, Tryd.results80, go_sem, cs]) rfl ⟨⟨by rw [HY.out, HX.out], oB, h7, hE7, hap⟩, hK7, hbu7⟩

end Go.Proofs.YtcaljepfinfkbaaDoor
