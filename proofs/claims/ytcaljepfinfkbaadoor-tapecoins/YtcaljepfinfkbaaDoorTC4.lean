/- tape.check, giverOf, begin, Write of a tape. -/
import Derived.Test.YtcaljepfinfkbaaDoorTC3
namespace Go.Proofs.YtcaljepfinfkbaaDoor
open Go.RowKit

/-- A block that holds a source: a tape. -/
def Src (w : World) (N : Nat) (oa : Option Addr) (n cn : Nat) : Prop := w.heap[N]? = some (.cells #[.int .i64 1, .slice oa n cn] 38)
section
variable {w w' : World} {N n cn : Nat} {oa : Option Addr}
theorem Src.lt (h : Src w N oa n cn) : N < w.heap.size := (Array.getElem?_eq_some_iff.1 h).1
theorem Src.cell0 (h : Src w N oa n cn) : w.cell? ⟨N, 0, none⟩ = some (.int .i64 1) := by unfold Src at h; simp [World.cell?, h]
theorem Src.cell1 (h : Src w N oa n cn) : w.cell? ⟨N, 1, none⟩ = some (.slice oa n cn) := by unfold Src at h; simp [World.cell?, h]
theorem Src.belowAll (h : Src w N oa n cn) (hb : Below w.heap.size w w') : Src w' N oa n cn := by unfold Src; rw [hb.block N h.lt]; exact h
theorem Src.kept {g : Nat} (h : Src w N oa n cn) (hne : N ≠ g) (hk : Kept g w w') : Src w' N oa n cn := by unfold Src; rw [hk.block N h.lt hne]; exact h
theorem Src.drew (h : Src w N oa n cn) : Src w.drew N oa n cn := h
theorem Src.newAt (w : World) (N n cn : Nat) (oa : Option Addr) (h : N = w.heap.size) : Src (w.alloc (.cells #[.int .i64 1, .slice oa n cn] 38)) N oa n cn := by rw [h]; exact new_blockE _ _
end
/-- A block of two cells. -/
def Two (w : World) (t : TypeId) (N : Nat) (a b : Value) : Prop := w.heap[N]? = some (.cells #[a, b] t)
section
variable {w w' : World} {t : TypeId} {N : Nat} {a b : Value}
theorem Two.lt (h : Two w t N a b) : N < w.heap.size := (Array.getElem?_eq_some_iff.1 h).1
theorem Two.cell0 (h : Two w t N a b) : w.cell? ⟨N, 0, none⟩ = some a := by unfold Two at h; simp [World.cell?, h]
theorem Two.cell1 (h : Two w t N a b) : w.cell? ⟨N, 1, none⟩ = some b := by unfold Two at h; simp [World.cell?, h]
theorem Two.frozen (h : Two w t N a b) : ∀ o, w.frozen? ⟨N, o, none⟩ = false := fun o => by unfold Two at h; simp [World.frozen?, h]
theorem Two.belowAll (h : Two w t N a b) (hb : Below w.heap.size w w') : Two w' t N a b := by unfold Two; rw [hb.block N h.lt]; exact h
theorem Two.put (h : Two w t N a b) (c d : Value) : ∃ w', (w.setCell ⟨N, 0, none⟩ c).setCell ⟨N, 1, none⟩ d = w' ∧ Two w' t N c d ∧ Kept N w w' :=
  ⟨_, rfl, by unfold Two at h ⊢; simp [World.setCell, Array.getElem?_modify, h], ((Kept.refl N w).setCell _ _).setCell _ _⟩
theorem Two.newAt (w : World) (t : TypeId) (N : Nat) (a b : Value) (h : N = w.heap.size) : Two (w.alloc (.cells #[a, b] t)) t N a b := by rw [h]; exact new_blockE _ _
end
set_option maxHeartbeats 2000000 in
theorem scalars_any (c s : Nat) (h : bits BinOp.xor IntKind.i64 (c : Int) 1 = (s : Int)) (w : World) : Calls Tryd.prog 16 #[.int .i64 (c : Int)] w fun e w' => e = .returned (.int .i64 (s : Int)) ∧ w' = w := by
  go_enter Tryd.func16, Tryd.ntmps16
  go_wp2
  go_ret
  exact ⟨rfl, rfl⟩
set_option maxHeartbeats 4000000 in
theorem tchk_in (c n cn : Nat) (oa : Option Addr) (hc : c < 4) (hn : n ≤ 100000) (w : World) (hg : GlobC w) :
    Calls Tryd.prog 18 #[.int .i64 (c : Int), .agg #[.int .i64 1, .slice oa n cn]] w fun e w' => e = .returned (.int .i64 0) ∧ Below w.heap.size w w' := by
  have HG : Hid (GlobC w) := hg
  have HC : Hid (c < 4) := hc
  have hni : ¬ (100000 : Int) < (n : Int) := by omega
  obtain ⟨w0, hw0⟩ : ∃ z : World, z = w.alloc (.cells #[.int .i64 1, .slice oa n cn] 38) := ⟨_, rfl⟩
  have hb0 : Below w.heap.size w w0 := by rw [hw0]; exact bAlloc (Below.refl _ _) _
  obtain ⟨N3, e3⟩ : ∃ N, N = w.heap.size := ⟨_, rfl⟩
  have hs0 : Src w0 N3 oa n cn := by rw [hw0]; exact Src.newAt _ _ _ _ _ e3
  clear hg hc
  go_enter Tryd.func18, Tryd.ntmps18
  go_upto_region 1 with fail
  rw [← hw0, ← e3]
  clear hw0 e3
  go_wp2_with fail
  refine (infinity_any w0).mono ?_
  rintro e w1 ⟨rfl, hb1⟩
  have hbw1 := bStep hb0 hb1
  have hs1 := hs0.belowAll hb1
  go_wp2_with fail
  refine (on_in c 0 0 true HC.out (by decide) (by decide) w1 (HG.out.below hbw1)).mono ?_
  rintro e w2 ⟨rfl, hb2⟩
  rw [decide_eq_true (show onC c 0 0 true from Or.inl ⟨rfl, rfl, rfl⟩)]
  have hbw2 := bStep hbw1 hb2
  have hs2 := hs1.belowAll hb2
  clear hb0 hb1 hb2 hs0 hs1 hbw1
  have q0 := hs2.cell0; have q1 := hs2.cell1
  go_wp2
  go_ret
  exact ⟨rfl, hbw2⟩
set_option maxHeartbeats 4000000 in
theorem giver_in (s n cn : Nat) (oa : Option Addr) (f : Nat → Nat) (hn : n ≤ 100000) (w : World) (hE : Es w (.slice oa n cn) n f) :
    Calls Tryd.prog 19 #[.int .i64 (s : Int), .agg #[.int .i64 1, .slice oa n cn]] w fun e w' => (∃ (S bC : Nat) (oB : Option Addr) (cB : Nat), e = .returned (.iface 70 (.pointer (some ⟨S, 0, none⟩))) ∧ w.heap.size ≤ S ∧ w.heap.size ≤ bC ∧ S ≠ bC ∧ Scr w' S bC s ∧ One1 w' 49 bC (.slice oB n cB) ∧ Es w' (.slice oB n cB) n f ∧ Hid (∀ g o, oB = some ⟨g, o, none⟩ → w.heap.size ≤ g ∧ g ≠ bC ∧ g ≠ S)) ∧ Below w.heap.size w w' := by
  have HE : Hid (Es w (.slice oa n cn) n f) := hE
  obtain ⟨w0, hw0⟩ : ∃ z : World, z = w.alloc (.cells #[.int .i64 1, .slice oa n cn] 38) := ⟨_, rfl⟩
  have hb0 : Below w.heap.size w w0 := by rw [hw0]; exact bAlloc (Below.refl _ _) _
  obtain ⟨N3, e3⟩ : ∃ N, N = w.heap.size := ⟨_, rfl⟩
  have hs0 : Src w0 N3 oa n cn := by rw [hw0]; exact Src.newAt _ _ _ _ _ e3
  clear hE
  go_enter Tryd.func19, Tryd.ntmps19
  go_upto_region 1 with fail
  rw [← hw0, ← e3]
  clear hw0 e3
  have q0 := hs0.cell0; have q1 := hs0.cell1
  go_wp2_with fail
  refine (purse_any n _ f (by omega) w0 (HE.out.below hb0)).mono ?_
  rintro e w1 ⟨⟨bC, n', cB, oB, rfl, lB, rfl, h1, hE1, HF⟩, hb1⟩
  have hbw1 := bStep hb0 hb1
  have k1 := h1.lt
  have l0 := hb0.size
  have hbe : Below w1.heap.size w1 (w1.alloc (.cells #[.int .i64 (s : Int), .pointer (some ⟨bC, 0, none⟩)] 72)) := bAlloc (Below.refl _ _) _
  have HSC : Hid (Scr (w1.alloc (.cells #[.int .i64 (s : Int), .pointer (some ⟨bC, 0, none⟩)] 72)) w1.heap.size bC s) := new_blockE _ _
  have HA : Hid (∀ g o, oB = some ⟨g, o, none⟩ → w.heap.size ≤ g ∧ g ≠ bC ∧ g ≠ w1.heap.size) := fun g o e => by
    have h2 := HF.out g o e
    refine ⟨by omega, h2.2, ?_⟩
    rcases hE1 with ⟨h3, _⟩ | ⟨b, o', c, hv, _, _, hb, _⟩
    · cases h3; cases e
    · cases hv
      cases e
      omega
  have HE1 : Hid (Es w1 (.slice oB n' cB) n' f) := hE1
  clear hs0 q0 q1 hb0 HF hE1
  go_wp2
  go_ret
  exact ⟨⟨w1.heap.size, bC, oB, cB, rfl, by omega, by omega, by omega, HSC.out, h1.belowAll hbe, HE1.out.below hbe, HA.out⟩, bStep hbw1 hbe⟩
set_option maxHeartbeats 8000000 in
set_option maxRecDepth 20000 in
theorem begin_in (c s n cn : Nat) (oa : Option Addr) (f : Nat → Nat) (hc : c < 4) (hx : bits BinOp.xor IntKind.i64 (c : Int) 1 = (s : Int)) (hn : n ≤ 100000) (w : World) (hg : GlobC w) (hE : Es w (.slice oa n cn) n f) :
    Calls Tryd.prog 13 #[.int .i64 (c : Int), .agg #[.int .i64 1, .slice oa n cn]] w fun e w' => (∃ (S bC : Nat) (oB : Option Addr) (cB : Nat), e = .returned (.tuple #[.agg #[.int .i64 (c : Int), .iface 70 (.pointer (some ⟨S, 0, none⟩))], .int .i64 0]) ∧ w.heap.size ≤ S ∧ w.heap.size ≤ bC ∧ S ≠ bC ∧ Scr w' S bC s ∧ One1 w' 49 bC (.slice oB n cB) ∧ Es w' (.slice oB n cB) n f ∧ Hid (∀ g o, oB = some ⟨g, o, none⟩ → w.heap.size ≤ g ∧ g ≠ bC ∧ g ≠ S)) ∧ Below w.heap.size w w' := by
  have HG : Hid (GlobC w) := hg
  have HE : Hid (Es w (.slice oa n cn) n f) := hE
  have HSL : Hid (∀ w, Calls Tryd.prog 16 #[.int .i64 (c : Int)] w fun e w' => e = .returned (.int .i64 (s : Int)) ∧ w' = w) := fun w => scalars_any c s hx w
  have HGO : Hid (∀ w, Es w (.slice oa n cn) n f → Calls Tryd.prog 19 #[.int .i64 (s : Int), .agg #[.int .i64 1, .slice oa n cn]] w fun e w' => (∃ (S bC : Nat) (oB : Option Addr) (cB : Nat), e = .returned (.iface 70 (.pointer (some ⟨S, 0, none⟩))) ∧ w.heap.size ≤ S ∧ w.heap.size ≤ bC ∧ S ≠ bC ∧ Scr w' S bC s ∧ One1 w' 49 bC (.slice oB n cB) ∧ Es w' (.slice oB n cB) n f ∧ Hid (∀ g o, oB = some ⟨g, o, none⟩ → w.heap.size ≤ g ∧ g ≠ bC ∧ g ≠ S)) ∧ Below w.heap.size w w') := fun w h => giver_in s n cn oa f hn w h
  obtain ⟨w0, hw0⟩ : ∃ z : World, z = (w.alloc (.cells #[.int .i64 1, .slice oa n cn] 38)).alloc (.cells #[.int .i64 0, .nilIface] 42) := ⟨_, rfl⟩
  have hs1 : (w.alloc (.cells #[.int .i64 1, .slice oa n cn] 38)).heap.size = w.heap.size + 1 := Array.size_push ..
  have hb0 : Below w.heap.size w w0 := by rw [hw0]; exact bAlloc (bAlloc (Below.refl _ _) _) _
  obtain ⟨N3, e3⟩ : ∃ N, N = w.heap.size := ⟨_, rfl⟩
  obtain ⟨N4, e4⟩ : ∃ N, N = N3 + 1 := ⟨_, rfl⟩
  have hs0 : Src w0 N3 oa n cn := by rw [hw0]; exact (Src.newAt _ _ _ _ _ e3).belowAll (bAlloc (Below.refl _ _) _)
  have t40 : Two w0 42 N4 (.int .i64 0) .nilIface := by rw [hw0]; exact Two.newAt _ _ _ _ _ (by omega)
  have HCH : Hid (∀ w, GlobC w → Calls Tryd.prog 18 #[.int .i64 (c : Int), .agg #[.int .i64 1, .slice oa n cn]] w fun e w' => e = .returned (.int .i64 0) ∧ Below w.heap.size w w') := fun w h => tchk_in c n cn oa hc hn w h
  clear hg hc hE hx
  go_enter Tryd.func13, Tryd.ntmps13
  go_upto_region 1 with fail
  rw [← hw0, ← e3, ← e4]
  have l4 : w.heap.size ≤ N4 := by omega
  have n34 : N3 ≠ N4 := by omega
  clear hw0 e3 e4 hs1
  have q0 := hs0.cell0; have q1 := hs0.cell1
  go_wp2_with fail
  refine (HCH.out w0 (HG.out.below hb0)).mono ?_
  rintro e w5 ⟨rfl, hb5⟩
  have hs5 := hs0.belowAll hb5; have t45 := t40.belowAll hb5; have hbw5 := bStep hb0 hb5
  have hE5 : Es w5 (.slice oa n cn) n f := HE.out.below hbw5
  clear q0 q1 hs0 t40 hb0 hb5 HCH
  go_upto_region 4 with fail
  refine wp_region_Z (fun w' => Src w' N3 oa n cn) 99 (by kernel_rfl) ?_
  obtain ⟨wD, hD⟩ : ∃ x : World, x = w5.drew := ⟨_, rfl⟩
  rw [← hD]
  have hp0_0 : Src wD N3 oa n cn := by rw [hD]; exact hs5.drew
  have hlow0 : Below w5.heap.size w5 wD := by rw [hD]; exact (Below.refl _ _).drew
  clear hD
  refine wpZ_take (i := 0) (v := .int .i64 (c : Int)) 14 rfl rfl (by kernel_rfl) (by kernel_rfl) (by kernel_rfl) (Or.inr (by decide)) (fun _ _ _ h => h) (Or.inl ⟨by rfl, fun w hSw => by go_simp⟩) hp0_0 ?_
  simp only [Act.put, List.setIfInBounds_toArray]
  dsimp only [List.set_cons_zero, List.set_cons_succ]
  refine wpZ_take (i := 1) (v := .int .i64 (c : Int)) 15 rfl rfl (by kernel_rfl) (by kernel_rfl) (by kernel_rfl) (Or.inr (by decide)) (fun _ _ _ h => h) (Or.inl ⟨by rfl, fun w hSw => by go_simp⟩) hp0_0 ?_
  simp only [Act.put, List.setIfInBounds_toArray]
  dsimp only [List.set_cons_zero, List.set_cons_succ]
  refine wpZ_take (i := 3) (v := .agg #[.int .i64 1, .slice oa n cn]) 17 rfl rfl (by kernel_rfl) (by kernel_rfl) (by kernel_rfl) (Or.inr (by decide)) (fun _ _ _ h => h) (Or.inl ⟨by rfl, fun w hSw => by (have q0 := hSw.cell0; have q1 := hSw.cell1; clear hSw; go_simp)⟩) hp0_0 ?_
  simp only [Act.put, List.setIfInBounds_toArray]
  dsimp only [List.set_cons_zero, List.set_cons_succ]
  refine wpZ_one (i := 2) (by kernel_rfl) rfl (fun K hK => ?_)
  go_simp
  refine (HSL.out wD).mono ?_
  rintro e w6' ⟨rfl, hw6⟩
  obtain rfl := hw6.symm
  go_wp2_with fail
  refine hK.out _ _ (fun _ => hp0_0) ?_
  clear hK K
  refine wpZ_one (i := 4) (by kernel_rfl) rfl (fun K hK => ?_)
  go_simp
  refine (HGO.out wD (hE5.below hlow0)).mono ?_
  rintro e w7 ⟨⟨S, bC, oB, cB, rfl, lS, lC, nSC, hS7, h7, hE7, HA7⟩, hb7⟩
  have hs7 := (hp0_0).belowAll hb7; have hlow7 := bStep hlow0 hb7
  go_wp2_with fail
  refine hK.out _ _ (fun _ => hs7) ?_
  clear hK K
  refine wpZ_take (i := 5) (v := .agg #[.int .i64 (c : Int), .iface 70 (.pointer (some ⟨S, 0, none⟩))]) 19 rfl rfl (by kernel_rfl) (by kernel_rfl) (by kernel_rfl) (Or.inr (by decide)) (fun _ _ _ h => h) (Or.inl ⟨by rfl, fun w hSw => by go_simp⟩) hs7 ?_
  simp only [Act.put, List.setIfInBounds_toArray]
  dsimp only [List.set_cons_zero, List.set_cons_succ]
  refine wpZ_one (i := 6) (by kernel_rfl) rfl (fun K hK => ?_)
  have t47 := t45.belowAll hlow7
  have c40 := t47.cell0; have c41 := t47.cell1; have f4 := t47.frozen
  obtain ⟨w8, hw8, t48, hk8⟩ := t47.put (.int .i64 (c : Int)) (.iface 70 (.pointer (some ⟨S, 0, none⟩)))
  have hs8 := hs7.kept n34 hk8
  go_simp
  refine hK.out _ _ (fun _ => hs8) ?_
  clear hK K c40 c41 f4 t47
  refine wpZ_take (i := 7) (v := .int .i64 0) 5 rfl rfl (by kernel_rfl) (by kernel_rfl) (by kernel_rfl) (Or.inr (by decide)) (fun _ _ _ h => h) (Or.inl ⟨by rfl, fun w hSw => by go_simp⟩) hs8 ?_
  simp only [Act.put, List.setIfInBounds_toArray]
  dsimp only [List.set_cons_zero, List.set_cons_succ]
  refine wpZ_done (by kernel_rfl) ?_ _
  have kS := hS7.lt; have kC := h7.lt
  have l5 := hbw5.size; have k4 := t45.lt; have l7 := hlow7.size; have lD := hlow0.size
  have nS4 : S ≠ N4 := by omega
  have nC4 : bC ≠ N4 := by omega
  have h8 := h7.kept nC4 hk8; have hS8 := hS7.kept nS4 hk8
  have HA8 : Hid (∀ g o, oB = some ⟨g, o, none⟩ → w.heap.size ≤ g ∧ g ≠ bC ∧ g ≠ S) := fun g o e => by have := HA7.out g o e; exact ⟨by omega, this.2⟩
  have hE8 := hE7.kept (fun g o m c e => by cases e; have := HA7.out g o rfl; omega) hk8
  have hb8 := bKept (bStep hbw5 hlow7) l4 hk8
  have cs0 := t48.cell0; have cs1 := t48.cell1
  clear hw8 hk8 hs8 hs7 hlow7 HA7 hS7 h7 hE7
  go_wp2
  refine bodyPost_ret (v := .tuple #[.agg #[.int .i64 (c : Int), .iface 70 (.pointer (some ⟨S, 0, none⟩))], .int .i64 0]) (by simp [results, Tryd.results13, go_sem, cs0, cs1]) rfl ⟨⟨S, bC, oB, cB, rfl, by omega, by omega, nSC, hS8, h8, hE8, HA8.out⟩, hb8⟩

end Go.Proofs.YtcaljepfinfkbaaDoor
