/- tape.Write of a tape, Challenge. -/
import Derived.Test.YtcaljepfinfkbaaDoorTC4
namespace Go.Proofs.YtcaljepfinfkbaaDoor
open Go.RowKit

/-- Block W is a writer over curve c whose script is block S and who has said v. -/
def Wrt (w : World) (W S c : Nat) (v : Value) : Prop := w.heap[W]? = some (.cells #[.int .i64 (c : Int), .iface 70 (.pointer (some ⟨S, 0, none⟩)), v] 45)
section
variable {w w' : World} {W S c : Nat} {v : Value}
theorem Wrt.lt (h : Wrt w W S c v) : W < w.heap.size := (Array.getElem?_eq_some_iff.1 h).1
theorem Wrt.cell0 (h : Wrt w W S c v) : w.cell? ⟨W, 0, none⟩ = some (.int .i64 (c : Int)) := by unfold Wrt at h; simp [World.cell?, h]
theorem Wrt.cell1 (h : Wrt w W S c v) : w.cell? ⟨W, 1, none⟩ = some (.iface 70 (.pointer (some ⟨S, 0, none⟩))) := by unfold Wrt at h; simp [World.cell?, h]
theorem Wrt.cell2 (h : Wrt w W S c v) : w.cell? ⟨W, 2, none⟩ = some v := by unfold Wrt at h; simp [World.cell?, h]
theorem Wrt.frozen (h : Wrt w W S c v) : ∀ o, w.frozen? ⟨W, o, none⟩ = false := fun o => by unfold Wrt at h; simp [World.frozen?, h]
theorem Wrt.belowAll (h : Wrt w W S c v) (hb : Below w.heap.size w w') : Wrt w' W S c v := by unfold Wrt; rw [hb.block W h.lt]; exact h
theorem Wrt.kept {g : Nat} (h : Wrt w W S c v) (hne : W ≠ g) (hk : Kept g w w') : Wrt w' W S c v := by unfold Wrt; rw [hk.block W h.lt hne]; exact h
theorem Wrt.drew (h : Wrt w W S c v) : Wrt w.drew W S c v := h
theorem Wrt.put (h : Wrt w W S c v) (u : Value) : ∃ w', w.setCell ⟨W, 2, none⟩ u = w' ∧ Wrt w' W S c u ∧ Kept W w w' :=
  ⟨_, rfl, by unfold Wrt at h ⊢; simp [World.setCell, Array.getElem?_modify, h], (Kept.refl W w).setCell _ _⟩
end
set_option maxHeartbeats 4000000 in
theorem write_in (c s n cn : Nat) (oa : Option Addr) (f : Nat → Nat) (hc : c < 4) (hx : bits BinOp.xor IntKind.i64 (c : Int) 1 = (s : Int)) (hn : n ≤ 100000) (w : World) (hg : GlobC w) (hE : Es w (.slice oa n cn) n f) :
    Calls Tryd.prog 8 #[.int .i64 (c : Int), .agg #[.int .i64 1, .slice oa n cn]] w fun e w' => (∃ (W S bC : Nat) (oB : Option Addr) (cB : Nat), e = .returned (.tuple #[.pointer (some ⟨W, 0, none⟩), .int .i64 0]) ∧ w.heap.size ≤ W ∧ w.heap.size ≤ S ∧ w.heap.size ≤ bC ∧ S ≠ bC ∧ W ≠ S ∧ W ≠ bC ∧ Wrt w' W S c (.slice none 0 0) ∧ Scr w' S bC s ∧ One1 w' 49 bC (.slice oB n cB) ∧ Es w' (.slice oB n cB) n f ∧ Hid (∀ g o, oB = some ⟨g, o, none⟩ → w.heap.size ≤ g ∧ g ≠ bC ∧ g ≠ W)) ∧ Below w.heap.size w w' := by
  have HG : Hid (GlobC w) := hg
  have HE : Hid (Es w (.slice oa n cn) n f) := hE
  have HBG := (show Hid (∀ w, GlobC w → Es w (.slice oa n cn) n f → _) from fun w hg h => begin_in c s n cn oa f hc hx hn w hg h)
  obtain ⟨w0, hw0⟩ : ∃ z : World, z = w.alloc (.cells #[.int .i64 1, .slice oa n cn] 38) := ⟨_, rfl⟩
  have hb0 : Below w.heap.size w w0 := by rw [hw0]; exact bAlloc (Below.refl _ _) _
  obtain ⟨N3, e3⟩ : ∃ N, N = w.heap.size := ⟨_, rfl⟩
  have hs0 : Src w0 N3 oa n cn := by rw [hw0]; exact Src.newAt _ _ _ _ _ e3
  clear hg hE hx hc
  go_enter Tryd.func8, Tryd.ntmps8
  go_upto_region 1 with fail
  rw [← hw0, ← e3]
  clear hw0 e3
  have q0 := hs0.cell0; have q1 := hs0.cell1
  go_wp2_with fail
  refine (HBG.out w0 (HG.out.below hb0) (HE.out.below hb0)).mono ?_
  rintro e w1 ⟨⟨S, bC, oB, cB, rfl, lS, lC, nSC, hS1, h1, hE1, HA⟩, hb1⟩
  have hbw1 := bStep hb0 hb1
  have l0 := hb0.size
  clear q0 q1 hs0 hb0 hb1 HBG
  have HE1 : Hid (Es w1 (.slice oB n cB) n f) := hE1
  clear hE1
  obtain ⟨N6, e6⟩ : ∃ N, N = w1.heap.size := ⟨_, rfl⟩
  obtain ⟨w2, hw2⟩ : ∃ z : World, z = w1.alloc (.cells #[.int .i64 (c : Int), .iface 70 (.pointer (some ⟨S, 0, none⟩))] 42) := ⟨_, rfl⟩
  have t2 : Two w2 42 N6 (.int .i64 (c : Int)) (.iface 70 (.pointer (some ⟨S, 0, none⟩))) := by rw [hw2]; exact Two.newAt _ _ _ _ _ e6
  have hb2 : Below w1.heap.size w1 w2 := by rw [hw2]; exact bAlloc (Below.refl _ _) _
  go_upto_region 2 with fail
  rw [← hw2, ← e6]
  clear hw2 e6
  have c0 := t2.cell0; have c1 := t2.cell1
  have hbe : Below w2.heap.size w2 (w2.alloc (.cells #[.int .i64 (c : Int), .iface 70 (.pointer (some ⟨S, 0, none⟩)), .slice none 0 0] 45)) := bAlloc (Below.refl _ _) _
  have HW : Hid (Wrt (w2.alloc (.cells #[.int .i64 (c : Int), .iface 70 (.pointer (some ⟨S, 0, none⟩)), .slice none 0 0] 45)) w2.heap.size S c (.slice none 0 0)) := new_blockE _ _
  have kS := (hS1.belowAll hb2).lt; have kC := (h1.belowAll hb2).lt; have lw := hbw1.size; have l2 := hb2.size
  have HA2 : Hid (∀ g o, oB = some ⟨g, o, none⟩ → w.heap.size ≤ g ∧ g ≠ bC ∧ g ≠ w2.heap.size) := fun g o e => by
    have h9 := HA.out g o e
    refine ⟨by omega, h9.2.1, ?_⟩
    rcases HE1.out with ⟨h3, _⟩ | ⟨b, o', c, hv, _, _, hb, _⟩
    · cases h3; cases e
    · cases hv
      cases e
      omega
  go_wp2
  go_ret2
  exact ⟨⟨w2.heap.size, S, bC, oB, cB, rfl, by omega, by omega, by omega, nSC, by omega, by omega, HW.out, (hS1.belowAll hb2).belowAll hbe, (h1.belowAll hb2).belowAll hbe, (HE1.out.below hb2).below hbe, HA2.out⟩, bStep (bStep hbw1 hb2) hbe⟩
set_option maxHeartbeats 8000000 in
set_option maxRecDepth 100000 in
theorem chal_none (W S bC s c cB : Nat) (v : Value) (o : Option Addr) (w : World) (hW : Wrt w W S c v) (hS : Scr w S bC s) (h : One1 w 49 bC (.slice o 0 cB)) :
    Calls Tryd.prog 9 #[.pointer (some ⟨W, 0, none⟩)] w fun e w' => e = .returned (.tuple #[.agg #[.int .u64 0, .int .u64 0, .int .u64 0, .int .u64 0], .int .i64 81]) ∧ Below w.heap.size w w' := by
  obtain ⟨w0, hw0⟩ : ∃ z : World, z = w.alloc (.cells #[.int .u64 0, .int .u64 0, .int .u64 0, .int .u64 0] 29) := ⟨_, rfl⟩
  have hb0 : Below w.heap.size w w0 := by rw [hw0]; exact bAlloc (Below.refl _ _) _
  have br : Blk w0 29 w.heap.size (fun _ => 0) := by rw [hw0]; exact Blk.newAt _ _ _ (fun _ => 0) rfl
  obtain ⟨N2, e2⟩ : ∃ N, N = w.heap.size := ⟨_, rfl⟩
  rw [← e2] at br
  have c1 := (hW.belowAll hb0).cell1
  have hS0 := hS.belowAll hb0
  have h0 := h.belowAll hb0
  go_enter Tryd.func9, Tryd.ntmps9
  go_upto_region 1 with fail
  rw [← hw0, ← e2]
  have l2 : w.heap.size ≤ N2 := by omega
  clear hw0 e2
  go_wp2_with fail
  refine (give_none S bC s cB o w0 hS0 h0).mono ?_
  rintro e w2 ⟨rfl, hb1⟩
  have br1 := br.belowAll hb1
  have hb2 := bStep hb0 hb1
  clear hb1 hb0 br h0 c1 hS0
  have cr := br1.cell; have fr := br1.frozen
  obtain ⟨w3, hw3, b3, hk3⟩ := br1.put4 0
  have hw3' : (((w2.setCell ⟨N2, 0, none⟩ (.int .u64 0)).setCell ⟨N2, 1, none⟩ (.int .u64 0)).setCell ⟨N2, 2, none⟩ (.int .u64 0)).setCell ⟨N2, 3, none⟩ (.int .u64 0) = w3 := by
    have := hw3
    rw [limb_zero, limb_zero, limb_zero, limb_zero] at this
    exact this
  have hb3 := bKept hb2 l2 hk3
  have b3' : Blk w3 29 N2 (fun _ => 0) := b3.congr (fun i _ => (limb_zero i).symm)
  have cs := b3'.cell
  clear hw3 hk3 b3
  go_wp2
  refine bodyPost_ret (v := .tuple #[.agg #[.int .u64 0, .int .u64 0, .int .u64 0, .int .u64 0], .int .i64 81]) (by simp [results, Tryd.results9, go_sem, cs]) rfl ⟨rfl, hb3⟩
set_option maxHeartbeats 8000000 in
set_option maxRecDepth 100000 in
theorem chal_some (u : World) (hg : Glob u) (W S bC s c n cn : Nat) (v : Value) (oa : Option Addr) (f : Nat → Nat) (hs : s < 4) (hn : 0 < n) (hf : f 0 < 115792089237316195423570985008687907853269984665640564039457584007913129639936) (w : World) (hbu : Below u.heap.size u w) (lC : u.heap.size ≤ bC) (hne : S ≠ bC) (hW : Wrt w W S c v) (hS : Scr w S bC s) (h : One1 w 49 bC (.slice oa n cn)) (hE : Es w (.slice oa n cn) n f) (ha : ∀ g o, oa = some ⟨g, o, none⟩ → g ≠ bC) :
    Calls Tryd.prog 9 #[.pointer (some ⟨W, 0, none⟩)] w fun e w' => (e = .returned (.tuple #[.agg #[.int .u64 ((limb 0 (addP s (f 0) 0) : Nat) : Int), .int .u64 ((limb 1 (addP s (f 0) 0) : Nat) : Int), .int .u64 ((limb 2 (addP s (f 0) 0) : Nat) : Int), .int .u64 ((limb 3 (addP s (f 0) 0) : Nat) : Int)], .int .i64 0]) ∧ ∃ oa', One1 w' 49 bC (.slice oa' (n - 1) (cn - 1)) ∧ Es w' (.slice oa' (n - 1) (cn - 1)) (n - 1) (fun i => f (i + 1)) ∧ Aprt oa' oa bC) ∧ Kept bC w w' ∧ Below u.heap.size u w' := by
  obtain ⟨w0, hw0⟩ : ∃ z : World, z = w.alloc (.cells #[.int .u64 0, .int .u64 0, .int .u64 0, .int .u64 0] 29) := ⟨_, rfl⟩
  have hb0 : Below w.heap.size w w0 := by rw [hw0]; exact bAlloc (Below.refl _ _) _
  have br : Blk w0 29 w.heap.size (fun _ => 0) := by rw [hw0]; exact Blk.newAt _ _ _ (fun _ => 0) rfl
  obtain ⟨N2, e2⟩ : ∃ N, N = w.heap.size := ⟨_, rfl⟩
  rw [← e2] at br
  have c1 := (hW.belowAll hb0).cell1
  have kC := h.lt
  have HAL : Hid (∀ g o, oa = some ⟨g, o, none⟩ → g < w.heap.size) := fun g o e => by
    rcases hE with ⟨h1, _⟩ | ⟨b, o', c, hv, _, _, hb, _⟩
    · cases h1; cases e
    · cases hv
      cases e
      exact hb
  have HGV : Hid (Calls Tryd.prog 80 #[.pointer (some ⟨S, 0, none⟩)] w0 fun e w' => (e = .returned (.tuple #[.agg #[.int .u64 ((limb 0 (addP s (f 0) 0) : Nat) : Int), .int .u64 ((limb 1 (addP s (f 0) 0) : Nat) : Int), .int .u64 ((limb 2 (addP s (f 0) 0) : Nat) : Int), .int .u64 ((limb 3 (addP s (f 0) 0) : Nat) : Int)], .int .i64 0]) ∧ ∃ oa', One1 w' 49 bC (.slice oa' (n - 1) (cn - 1)) ∧ Es w' (.slice oa' (n - 1) (cn - 1)) (n - 1) (fun i => f (i + 1)) ∧ Aprt oa' oa bC) ∧ Kept bC w0 w' ∧ Below u.heap.size u w') := give_some u hg S bC s n cn oa f hs hn hf w0 (bStep hbu hb0) lC hne (hS.belowAll hb0) (h.belowAll hb0) (hE.below hb0) ha
  have lu := hbu.size
  clear hg hf hE ha hn hs hW hS h
  obtain ⟨y, ey⟩ : ∃ y, y = addP s (f 0) 0 := ⟨_, rfl⟩
  rw [← ey] at HGV ⊢
  clear ey
  go_enter Tryd.func9, Tryd.ntmps9
  go_upto_region 1 with fail
  rw [← hw0, ← e2]
  have l2 : u.heap.size ≤ N2 := by omega
  have l2w : w.heap.size ≤ N2 := by omega
  have nC2 : bC ≠ N2 := by omega
  have HN2 : Hid (N2 = w.heap.size) := e2
  clear hw0 e2
  go_wp2_with fail
  refine Calls.mono HGV.out ?_
  rintro e w4 ⟨⟨rfl, oB, h4, hE4, hap⟩, hk40, hbu4⟩
  have hk4 := (Kept.ofBelow bC hb0).trans hk40
  have b24 := br.kept nC2.symm hk40
  have HGN : Hid (∀ g o, oB = some ⟨g, o, none⟩ → g ≠ N2) := fun g o e => by
    obtain ⟨_, o', e'⟩ := hap g o e
    have := HAL.out g o' e'
    have := HN2.out
    omega
  clear br c1 hk40 hb0 hbu HAL HGV
  have cr := b24.cell; have fr := b24.frozen
  obtain ⟨w5, hw5, b25, hk5⟩ := b24.put4 y
  have hbu5 := bKept hbu4 l2 hk5
  have h5 := h4.kept nC2 hk5
  have hE5 := hE4.kept (fun g o m c e => by cases e; exact HGN.out g o rfl) hk5
  have hK5 := Kept.own hk4 l2w hk5
  have cs := b25.cell
  have HE5 := (show Hid (Es w5 (.slice oB (n - 1) (cn - 1)) (n - 1) (fun i => f (i + 1))) from hE5)
  clear hE5 hE4 h4 hk5 hk4 hbu4
  go_wp2
  refine bodyPost_ret (v := .tuple #[.agg #[.int .u64 ((limb 0 (y) : Nat) : Int), .int .u64 ((limb 1 (y) : Nat) : Int), .int .u64 ((limb 2 (y) : Nat) : Int), .int .u64 ((limb 3 (y) : Nat) : Int)], .int .i64 0]) (by simp [results, Tryd.results9, go_sem, cs]) rfl ⟨⟨rfl, oB, h5, HE5.out, hap⟩, hK5, hbu5⟩

end Go.Proofs.YtcaljepfinfkbaaDoor
