/- alive of the eighth law. -/
import Derived.Test.YtcaljepfinfkbaaDoorTC6
import Derived.Test.YtcaljepfinfkbaaDoorTC2
namespace Go.Proofs.YtcaljepfinfkbaaDoor
open Go.RowKit

/-- A block of one small element. -/
def Lit4 (w : World) (N : Nat) (a : Int) : Prop := w.heap[N]? = some (.cells #[.int .u64 a, .int .u64 0, .int .u64 0, .int .u64 0] 29)
section
variable {w w' : World} {N : Nat} {a : Int}
theorem Lit4.lt (h : Lit4 w N a) : N < w.heap.size := (Array.getElem?_eq_some_iff.1 h).1
theorem Lit4.cells (h : Lit4 w N a) : w.cell? ⟨N, 0, none⟩ = some (.int .u64 a) ∧ w.cell? ⟨N, 1, none⟩ = some (.int .u64 0) ∧ w.cell? ⟨N, 2, none⟩ = some (.int .u64 0) ∧ w.cell? ⟨N, 3, none⟩ = some (.int .u64 0) := by
  unfold Lit4 at h
  exact ⟨by simp [World.cell?, h], by simp [World.cell?, h], by simp [World.cell?, h], by simp [World.cell?, h]⟩
theorem Lit4.belowAll (h : Lit4 w N a) (hb : Below w.heap.size w w') : Lit4 w' N a := by unfold Lit4; rw [hb.block N h.lt]; exact h
theorem Lit4.kept {g : Nat} (h : Lit4 w N a) (hne : N ≠ g) (hk : Kept g w w') : Lit4 w' N a := by unfold Lit4; rw [hk.block N h.lt hne]; exact h
theorem Lit4.newAt (w : World) (N : Nat) (a : Int) (h : N = w.heap.size) : Lit4 (w.alloc (.cells #[.int .u64 a, .int .u64 0, .int .u64 0, .int .u64 0] 29)) N a := by rw [h]; exact new_blockE _ _
end
theorem five_E : (.agg #[.int .u64 ((limb 0 (addP 1 5 0) : Nat) : Int), .int .u64 ((limb 1 (addP 1 5 0) : Nat) : Int), .int .u64 ((limb 2 (addP 1 5 0) : Nat) : Int), .int .u64 ((limb 3 (addP 1 5 0) : Nat) : Int)] : Value) = .agg #[.int .u64 5, .int .u64 0, .int .u64 0, .int .u64 0] := by
  have h : addP 1 5 0 = 5 := by decide
  obtain ⟨a, b, c, d⟩ := limb_few 5 (by decide)
  rw [h, a, b, c, d]; rfl
theorem seven_E : (.agg #[.int .u64 ((limb 0 (addP 1 7 0) : Nat) : Int), .int .u64 ((limb 1 (addP 1 7 0) : Nat) : Int), .int .u64 ((limb 2 (addP 1 7 0) : Nat) : Int), .int .u64 ((limb 3 (addP 1 7 0) : Nat) : Int)] : Value) = .agg #[.int .u64 7, .int .u64 0, .int .u64 0, .int .u64 0] := by
  have h : addP 1 7 0 = 7 := by decide
  obtain ⟨a, b, c, d⟩ := limb_few 7 (by decide)
  rw [h, a, b, c, d]; rfl
theorem one_Et : (.agg #[.int .u64 ((limb 0 (1) : Nat) : Int), .int .u64 ((limb 1 (1) : Nat) : Int), .int .u64 ((limb 2 (1) : Nat) : Int), .int .u64 ((limb 3 (1) : Nat) : Int)] : Value) = .agg #[.int .u64 1, .int .u64 0, .int .u64 0, .int .u64 0] := by
  obtain ⟨a, b, c, d⟩ := limb_few 1 (by decide)
  rw [a, b, c, d]; rfl
theorem eq_lit (a : Nat) (ha : a < 18446744073709551616) (w : World) : (binOp .eql 29 (.agg #[.int .u64 (a : Int), .int .u64 0, .int .u64 0, .int .u64 0]) (.agg #[.int .u64 (a : Int), .int .u64 0, .int .u64 0, .int .u64 0])).run Tryd.prog w = .ok (.bool true) w := by
  have h := eqlE a a (Nat.lt_trans ha (by decide)) (Nat.lt_trans ha (by decide)) w
  obtain ⟨p, q, r, s⟩ := limb_few a ha
  rw [decide_eq_true rfl, p, q, r, s] at h
  exact h
def fT (i : Nat) : Nat := if i = 0 then 5 else 7
theorem fT_M (i : Nat) : fT i < 115792089237316195423570985008687907853269984665640564039457584007913129639936 := by
  unfold fT
  split <;> decide
theorem Kept.lit {g : Nat} {w w' : World} (h : Kept g w w') : w.heap.size ≤ w'.heap.size := h.size
set_option maxHeartbeats 8000000 in
set_option maxRecDepth 100000 in
theorem alive8_any (w : World) (hg : GlobC w) : Calls Tryd.prog 4 #[] w fun e w' => e = .returned (.bool true) ∧ Below w.heap.size w w' := by
  have HG : Hid (GlobC w) := hg
  have HX : Hid (bits BinOp.xor IntKind.i64 ((0 : Nat) : Int) 1 = ((1 : Nat) : Int)) := by show _ = _; decide
  have EQ5 : ∀ w, (binOp .eql 29 (.agg #[.int .u64 5, .int .u64 0, .int .u64 0, .int .u64 0]) (.agg #[.int .u64 5, .int .u64 0, .int .u64 0, .int .u64 0])).run Tryd.prog w = .ok (.bool true) w := fun w => eq_lit 5 (by decide) w
  have EQ7 : ∀ w, (binOp .eql 29 (.agg #[.int .u64 7, .int .u64 0, .int .u64 0, .int .u64 0]) (.agg #[.int .u64 7, .int .u64 0, .int .u64 0, .int .u64 0])).run Tryd.prog w = .ok (.bool true) w := fun w => eq_lit 7 (by decide) w
  obtain ⟨w0, hw0⟩ : ∃ z : World, z = w.alloc (.cells #[.int .u64 5, .int .u64 0, .int .u64 0, .int .u64 0, .int .u64 7, .int .u64 0, .int .u64 0, .int .u64 0] 29) := ⟨_, rfl⟩
  have hb0 : Below w.heap.size w w0 := by rw [hw0]; exact bAlloc (Below.refl _ _) _
  obtain ⟨N, eN⟩ : ∃ N, N = w.heap.size := ⟨_, rfl⟩
  have HE0 : Hid (Es w0 (.slice (some ⟨N, 0, none⟩) 2 2) 2 fT) := by rw [hw0, eN]; exact two_Es w 5 7 (by decide) (by decide)
  clear hg
  go_enter Tryd.func4, Tryd.ntmps4
  go_wp2_with fail
  rw [← hw0, ← eN]
  clear hw0 eN
  refine (write_in 0 1 2 2 (some ⟨N, 0, none⟩) fT (by decide) HX.out (by decide) w0 (HG.out.below hb0) HE0.out).mono ?_
  rintro e w1 ⟨⟨W, S, bC, oB, cB, rfl, lW, lS, lC, nSC, nWS, nWC, hW1, hS1, h1, hE1, HA1⟩, hb1⟩
  have hbw1 := bStep hb0 hb1
  have l0 := hb0.size
  have EQN : ∀ w, (binOp .eql 34 (.pointer (some ⟨W, 0, none⟩)) (.pointer none)).run Tryd.prog w = .ok (.bool false) w := fun w => by kernel_rfl
  have HE1 : Hid (Es w1 (.slice oB 2 cB) 2 fT) := hE1
  have HCC : Hid (w.heap.size ≤ bC) := by show w.heap.size ≤ bC; omega
  have HWW : Hid (w.heap.size ≤ W) := by show w.heap.size ≤ W; omega
  clear hb0 hb1 HE0 hE1 lS lC lW
  go_wp2_with fail
  refine (chal_some w HG.out.1 W S bC 1 0 2 cB _ oB fT (by decide) (by decide) (fT_M 0) w1 hbw1 HCC.out nSC hW1 hS1 h1 HE1.out (fun g o e => (HA1.out g o e).2.1)).mono ?_
  rintro e w2 ⟨⟨rfl, o2, h2, hE2, hap2⟩, hk2, hbw2⟩
  have hW2 := hW1.kept nWC hk2; have hS2 := hS1.kept nSC hk2
  rw [show fT 0 = 5 from rfl, five_E]
  have HA2 : Hid (∀ g o, o2 = some ⟨g, o, none⟩ → g ≠ bC ∧ g ≠ W) := fun g o e => by
    obtain ⟨h, o', e'⟩ := hap2 g o e
    exact ⟨h, (HA1.out g o' e').2.2⟩
  have HE2 : Hid (Es w2 (.slice o2 1 (cB - 1)) 1 (fun i => fT (i + 1))) := hE2
  have H2 : Hid (One1 w2 49 bC (.slice o2 1 (cB - 1))) := h2
  clear hW1 hS1 h1 HE1 HA1 hk2 hap2 hE2 h2 hbw1
  have hbe3 : Below w2.heap.size w2 (w2.alloc (.cells #[.int .u64 5, .int .u64 0, .int .u64 0, .int .u64 0] 29)) := bAlloc (Below.refl _ _) _
  go_upto_region 5 with fail
  obtain ⟨N3, e3⟩ : ∃ N, N = w2.heap.size := ⟨_, rfl⟩
  obtain ⟨w3, hw3⟩ : ∃ z : World, z = w2.alloc (.cells #[.int .u64 5, .int .u64 0, .int .u64 0, .int .u64 0] 29) := ⟨_, rfl⟩
  have b33 : Lit4 w3 N3 5 := by rw [hw3]; exact Lit4.newAt _ _ _ e3
  rw [← hw3] at hbe3
  have kW := hW2.lt; have kC := H2.out.lt
  have n3W : N3 ≠ W := by omega
  have n3C : N3 ≠ bC := by omega
  rw [← hw3, ← e3]
  clear hw3 e3
  have hbw3 := bStep hbw2 hbe3
  have hW3 := hW2.belowAll hbe3; have hS3 := hS2.belowAll hbe3
  have H3 : Hid (One1 w3 49 bC (.slice o2 1 (cB - 1))) := H2.out.belowAll hbe3
  have HE3 : Hid (Es w3 (.slice o2 1 (cB - 1)) 1 (fun i => fT (i + 1))) := HE2.out.below hbe3
  clear hW2 hS2 H2 HE2 hbe3 hbw2 kW kC
  have hSCL := scalar_in w HG.out.1 W S 0 1 1 (by decide) (by decide) HX.out w3 hbw3 hW3
  rw [one_Et] at hSCL
  have HSCL := (show Hid (Calls _ _ _ _ _) from hSCL)
  clear hSCL
  go_wp2_with fail
  refine Calls.mono HSCL.out ?_
  rintro e w4 ⟨⟨rfl, o4, k4, hW4, hB4, HF4⟩, hk4⟩
  have hbw4 := bKept hbw3 HWW.out hk4
  have hS4 := hS3.kept nWS.symm hk4
  have H4 : Hid (One1 w4 49 bC (.slice o2 1 (cB - 1))) := H3.out.kept nWC.symm hk4
  have HE4 : Hid (Es w4 (.slice o2 1 (cB - 1)) 1 (fun i => fT (i + 1))) := HE3.out.kept (fun g o m c e => by cases e; exact (HA2.out g o rfl).2) hk4
  have b34 := b33.kept n3W hk4
  have HB4 : Hid (Bs w4 (.slice o4 32 k4) 32 (encB (1 % modN 1))) := hB4
  have kC := H3.out.lt
  have HFB : Hid (∀ a : Addr, o4 = some a → a.block ≠ bC) := fun a e => by have := HF4.out a e; omega
  clear hW3 hS3 H3 HE3 b33 hk4 hbw3 HSCL hB4
  go_wp2_with fail
  refine (chal_some w HG.out.1 W S bC 1 0 1 (cB - 1) _ o2 (fun i => fT (i + 1)) (by decide) (by decide) (fT_M _) w4 hbw4 HCC.out nSC hW4 hS4 H4.out HE4.out (fun g o e => (HA2.out g o e).1)).mono ?_
  rintro e w5 ⟨⟨rfl, o5, h5, hE5, hap5⟩, hk5, hbw5⟩
  have hW5 := hW4.kept nWC hk5; have hS5 := hS4.kept nSC hk5; have b35 := b34.kept n3C hk5
  have HB5 : Hid (Bs w5 (.slice o4 32 k4) 32 (encB (1 % modN 1))) := HB4.out.kept HFB.out hk5
  rw [show fT (0 + 1) = 7 from rfl, seven_E]
  have H5 : Hid (One1 w5 49 bC (.slice o5 0 (cB - 1 - 1))) := h5
  clear hW4 hS4 H4 HE4 HA2 hk5 hap5 hE5 h5 hbw4 b34 HB4 HFB HF4
  have hbe6 : Below w5.heap.size w5 (w5.alloc (.cells #[.int .u64 7, .int .u64 0, .int .u64 0, .int .u64 0] 29)) := bAlloc (Below.refl _ _) _
  go_upto_region 7 with fail
  obtain ⟨N4, e4⟩ : ∃ N, N = w5.heap.size := ⟨_, rfl⟩
  obtain ⟨w6, hw6⟩ : ∃ z : World, z = w5.alloc (.cells #[.int .u64 7, .int .u64 0, .int .u64 0, .int .u64 0] 29) := ⟨_, rfl⟩
  have b46 : Lit4 w6 N4 7 := by rw [hw6]; exact Lit4.newAt _ _ _ e4
  rw [← hw6] at hbe6
  rw [← hw6, ← e4]
  clear hw6 e4
  have hbw6 := bStep hbw5 hbe6
  have hW6 := hW5.belowAll hbe6; have hS6 := hS5.belowAll hbe6; have b36 := b35.belowAll hbe6
  have H6 := H5.out.belowAll hbe6
  have HB6 : Hid (Bs w6 (.slice o4 32 k4) 32 (encB (1 % modN 1))) := HB5.out.below hbe6
  clear hW5 hS5 b35 H5 HB5 hbe6 hbw5
  go_wp2_with fail
  refine (chal_none W S bC 1 0 _ _ o5 w6 hW6 hS6 H6).mono ?_
  rintro e w7 ⟨rfl, hb7⟩
  have hbe8 : Below w7.heap.size w7 (w7.alloc (.cells #[.int .u64 0, .int .u64 0, .int .u64 0, .int .u64 0] 29)) := bAlloc (Below.refl _ _) _
  have hW7 := hW6.belowAll hb7; have b37 := b36.belowAll hb7; have b47 := b46.belowAll hb7
  have HB7 : Hid (Bs w7 (.slice o4 32 k4) 32 (encB (1 % modN 1))) := HB6.out.below hb7
  have hbw7 := bStep hbw6 hb7
  clear hW6 hS6 H6 b36 b46 HB6 hb7 hbw6
  go_upto_region 8 with fail
  obtain ⟨w8, hw8⟩ : ∃ z : World, z = w7.alloc (.cells #[.int .u64 0, .int .u64 0, .int .u64 0, .int .u64 0] 29) := ⟨_, rfl⟩
  rw [← hw8] at hbe8
  rw [← hw8]
  clear hw8
  have hbw8 := bStep hbw7 hbe8
  have hW8 := hW7.belowAll hbe8; have b38 := b37.belowAll hbe8; have b48 := b47.belowAll hbe8
  have HB8 : Hid (Bs w8 (.slice o4 32 k4) 32 (encB (1 % modN 1))) := HB7.out.below hbe8
  clear hW7 b37 b47 HB7 hbe8 hbw7
  obtain ⟨p0, p1, p2, p3⟩ := b38.cells
  obtain ⟨q0, q1, q2, q3⟩ := b48.cells
  go_wp2_with fail
  refine (bytes_in W S 0 k4 o4 _ w8 hW8 HB8.out).mono ?_
  rintro e w9 ⟨⟨o9, k9, rfl⟩, hb9⟩
  have hbw9 := bStep hbw8 hb9
  clear p0 p1 p2 p3 q0 q1 q2 q3 b38 b48 hW8 HB8 hb9 hbw8
  go_wp2
  go_ret
  exact ⟨rfl, hbw9⟩
/-- TapeCoins is true of anything. -/
theorem tcoins_walk (n : Nat) (v : Value) (f : Nat → Nat) (hn : n ≤ 4398046510976) (hf : ∀ i, i < n → f i < 115792089237316195423570985008687907853269984665640564039457584007913129639936) (w : World) (hg : GlobC w) (hv : Es w v n f) :
    Calls Tryd.prog 3 #[v] w fun e w' => e = .returned (.bool true) ∧ Below w.heap.size w w' := coins_walk n v f hn hf w hg alive8_any hv

end Go.Proofs.YtcaljepfinfkbaaDoor
