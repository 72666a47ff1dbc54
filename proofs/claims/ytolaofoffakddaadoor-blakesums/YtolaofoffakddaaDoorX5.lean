/- Sum of what is refused, the program's and the reference's; both of anything; BlakeSums' walk. -/
import Derived.Test.YtolaofoffakddaaDoorX4S
import Derived.Test.YtolaofoffakddaaDoorX4N
import Derived.Test.YtolaofoffakddaaDoorB15
import Derived.Test.YtolaofoffakddaaDoorB18
import Derived.Test.YtolaofoffakddaaDoorZ1
import Derived.Test.YtolaofoffakddaaDoorY8B
namespace Go.Proofs.YtolaofoffakddaaDoor
open Go.RowKit

/-- Are a person and a length refused? -/
def Bad (s : ByteArray) (L : Int) : Prop := 16 < s.size ∨ L < 1 ∨ 64 < L
set_option maxHeartbeats 2000000 in
/-- blake.New of what is refused. -/
theorem new_bad (s : ByteArray) (L : Int) (h : Bad s L) (w : World) :
    Calls Tryd.prog 11 #[.string s, .int .i64 L] w fun e w' => e = .returned (.tuple #[.pointer none, .int .i64 30]) ∧ w' = w := by
  obtain ⟨n, en⟩ : ∃ n, n = s.size := ⟨_, rfl⟩
  have hsz : s.size = n := en.symm
  unfold Bad at h
  rw [hsz] at h
  clear en
  by_cases h1 : (16 : Int) < (n : Int)
  · clear h
    go_enter Tryd.func11, Tryd.ntmps11
    go_wp2
    go_ret2
    exact ⟨rfl, rfl⟩
  · by_cases h2 : L < 1
    · clear h
      go_enter Tryd.func11, Tryd.ntmps11
      go_wp2
      go_ret2
      exact ⟨rfl, rfl⟩
    · have h3 : 64 < L := by omega
      clear h
      go_enter Tryd.func11, Tryd.ntmps11
      go_wp2
      go_ret2
      exact ⟨rfl, rfl⟩
set_option maxHeartbeats 2000000 in
/-- blake.Sum of what is refused. -/
theorem sum_bad (s : ByteArray) (L : Int) (v : Value) (h : Bad s L) (w : World) :
    Calls Tryd.prog 8 #[.string s, .int .i64 L, v] w fun e w' => e = .returned (.tuple #[.slice none 0 0, .int .i64 30]) ∧ w' = w := by
  have C := fun w => new_bad s L h w
  have HC := (show Hid _ from C)
  clear C h
  go_enter Tryd.func8, Tryd.ntmps8
  go_wp2_with fail
  refine (HC.out _).mono ?_
  rintro e w1 ⟨rfl, rfl⟩
  go_wp2
  go_ret2
  exact ⟨rfl, rfl⟩
set_option maxHeartbeats 2000000 in
/-- The reference's Sum of what is refused. -/
theorem rsum_bad (s : ByteArray) (L : Int) (v : Value) (h : Bad s L) (w : World) :
    Calls Tryd.prog 9 #[.string s, .int .i64 L, v] w fun e w' => e = .returned (.tuple #[.slice none 0 0, .int .i64 30]) ∧ w' = w := by
  obtain ⟨n, en⟩ : ∃ n, n = s.size := ⟨_, rfl⟩
  have hsz : s.size = n := en.symm
  unfold Bad at h
  rw [hsz] at h
  clear en
  by_cases h1 : (16 : Int) < (n : Int)
  · clear h
    go_enter Tryd.func9, Tryd.ntmps9
    go_wp2
    go_ret2
    exact ⟨rfl, rfl⟩
  · by_cases h2 : L < 1
    · clear h
      go_enter Tryd.func9, Tryd.ntmps9
      go_wp2
      go_ret2
      exact ⟨rfl, rfl⟩
    · have h3 : 64 < L := by omega
      clear h
      go_enter Tryd.func9, Tryd.ntmps9
      go_wp2
      go_ret2
      exact ⟨rfl, rfl⟩
/-- The reference's Sum of what isn't refused. -/
theorem rsum_any (s : ByteArray) (L n : Nat) (v : Value) (f : Nat → Nat) (hL1 : 1 ≤ L) (hL2 : L ≤ 64) (hs : s.size ≤ 16) (hn : n ≤ 100000) (hf : ∀ i, f i < 256) (w : World) (hv : Bs w v n f) :
    Calls Tryd.prog 9 #[.string s, .int .i64 (L : Int), v] w fun e w' => ∃ o, e = .returned (.tuple #[o, .int .i64 0]) ∧ w'.ownsRow w.heap.size 5 1 o L (bys (outB (fin (bgS L (pS s) s.size) f n)) L) ∧ Below w.heap.size w w' := by
  rcases hv with ⟨rfl, h0⟩ | ⟨a, c, rfl, h1, _, h3, h4⟩
  · subst h0
    exact rsum_nil s L f hL1 hL2 hs hf w
  · exact rsum_some s L a n c f hL1 hL2 hs hf w hn h1 h3 h4
theorem same_selfB (v u : Value) (n : Nat) (f : Nat → Nat) (w : World) (hv : Bs w v n f) (hu : Bs w u n f) :
    Calls Tryd.prog 10 #[v, u] w fun e w' => e = .returned (.bool true) ∧ Below w.heap.size w w' := by
  refine (same_any v u n n f f w hv hu).mono ?_
  rintro e w' ⟨rfl, hb⟩
  exact ⟨by rw [sameB_true (fun i _ => rfl)]; simp, hb⟩
theorem nilBs (w : World) (f : Nat → Nat) : Bs w (.slice none 0 0) 0 f := Or.inl ⟨rfl, rfl⟩

set_option maxHeartbeats 4000000 in
set_option maxRecDepth 20000 in
theorem sums_gen (s : ByteArray) (L e1 : Int) (n k c0 : Nat) (oa : Option Addr) (f z : Nat → Nat) (hn : n ≤ 5000)
    (D1 : ∀ w v, GlobB w → Bs w v n f → Calls Tryd.prog 8 #[.string s, .int .i64 L, v] w fun e w' => ∃ u, e = .returned (.tuple #[u, .int .i64 e1]) ∧ Bs w' u k z ∧ Below w.heap.size w w')
    (D2 : ∀ w v, Bs w v n f → Calls Tryd.prog 9 #[.string s, .int .i64 L, v] w fun e w' => ∃ u, e = .returned (.tuple #[u, .int .i64 e1]) ∧ Bs w' u k z ∧ Below w.heap.size w w')
    (w : World) (hg : GlobB w) (hB : Bs w (.slice oa n c0) n f) :
    Calls Tryd.prog 3 #[.string s, .int .i64 L, .slice oa n c0] w fun e w' => e = .returned (.bool true) ∧ Below w.heap.size w w' := by
  have HB : Hid (Bs w (.slice oa n c0) n f) := hB
  have HG : Hid (GlobB w) := hg
  have HD1 := (show Hid _ from D1); have HD2 := (show Hid _ from D2)
  have SP := fun w h => spare_any n (.slice oa n c0) f (by omega) w h
  have HSP := (show Hid _ from SP)
  have hn5 : ¬ (5000 : Int) < (n : Int) := by omega
  have qe2 : (e1 == e1) = true := by simp
  have hn0 : (0 : Int) ≤ (n : Int) := by omega
  clear hB hg D1 D2 SP
  go_enter Tryd.func3, Tryd.ntmps3
  go_wp2_with fail
  refine (aliveB_any _ HG.out).mono ?_
  rintro e w1 ⟨rfl, hb1⟩
  go_wp2_with fail
  refine (HSP.out _ (HB.out.below hb1)).mono ?_
  rintro e w2 ⟨v2, rfl, hown, hb2⟩
  obtain ⟨g, c, rfl, h1, h2, h3, h4, h5⟩ := own_cellsB hown (by omega)
  have hb2' := bStep hb1 hb2
  have P2 : Bs w2 (.slice (some ⟨g, 0, none⟩) n c) n f := cells_Bs (by omega) h2 h4 (fun i hi => by rw [h5 i (by omega)]; unfold spB; rw [if_pos hi])
  have A2 : Hid (Bs w2 (.slice (some ⟨g, 0, none⟩) (n + 8) c) (n + 8) (spB f n)) := cells_Bs h1 h2 h4 h5
  have HP2 := (show Hid _ from P2)
  unfold maxLen at h2
  have hi1 : (n : Int) ≤ (c : Int) := by omega
  clear P2 hown hb1 hb2 h3 h4 h5
  go_wp2_with fail
  refine (HD1.out _ _ (HG.out.below hb2') HP2.out).mono ?_
  rintro e w3 ⟨x, rfl, hx3, hb3⟩
  have hb3' := bStep hb2' hb3
  have A3 : Hid (Bs w3 (.slice (some ⟨g, 0, none⟩) (n + 8) c) (n + 8) (spB f n)) := A2.out.below hb3
  have HX3 : Hid (Bs w3 x k z) := hx3
  clear hx3 hb3 A2 HP2 hb2'
  go_wp2_with fail
  refine (HD2.out _ _ (HB.out.below hb3')).mono ?_
  rintro e w4 ⟨y, rfl, hy4, hb4⟩
  have hb4' := bStep hb3' hb4
  have A4 : Hid (Bs w4 (.slice (some ⟨g, 0, none⟩) (n + 8) c) (n + 8) (spB f n)) := A3.out.below hb4
  have HX4 : Hid (Bs w4 x k z) := HX3.out.below hb4
  have HY4 : Hid (Bs w4 y k z) := hy4
  clear hy4 hb4 A3 HX3 hb3'
  go_wp2_with fail
  refine (same_selfB _ _ k z _ HX4.out HY4.out).mono ?_
  rintro e w5 ⟨rfl, hb5⟩
  have hb5' := bStep hb4' hb5
  have A5 : Hid (Bs w5 (.slice (some ⟨g, 0, none⟩) (n + 8) c) (n + 8) (spB f n)) := A4.out.below hb5
  clear hb5 hb4' A4 HX4 HY4
  go_wp2_with fail
  refine (HSP.out _ (HB.out.below hb5')).mono ?_
  rintro e w6 ⟨v6, rfl, hown6, hb6⟩
  have hb6' := bStep hb5' hb6
  have HO6 : Hid (Bs w6 v6 (n + 8) (spB f n)) := own_Bs hown6
  have A6 : Hid (Bs w6 (.slice (some ⟨g, 0, none⟩) (n + 8) c) (n + 8) (spB f n)) := A5.out.below hb6
  clear hown6 hb6 A5
  go_wp2_with fail
  refine (same_selfB _ _ (n + 8) (spB f n) _ A6.out HO6.out).mono ?_
  rintro e w7 ⟨rfl, hb7⟩
  have hb7' := bStep hb6' hb7
  clear hb7
  go_wp2
  go_ret
  exact ⟨rfl, hb7'⟩

set_option maxHeartbeats 2000000 in
theorem sums_long (s : ByteArray) (L : Int) (n c0 : Nat) (oa : Option Addr) (hn : 5000 < n) (w : World) (hg : GlobB w) :
    Calls Tryd.prog 3 #[.string s, .int .i64 L, .slice oa n c0] w fun e w' => e = .returned (.bool true) ∧ Below w.heap.size w w' := by
  have HG : Hid (GlobB w) := hg
  have hn5 : (5000 : Int) < (n : Int) := by omega
  clear hg
  go_enter Tryd.func3, Tryd.ntmps3
  go_wp2_with fail
  refine (aliveB_any _ HG.out).mono ?_
  rintro e w1 ⟨rfl, hb1⟩
  go_wp2
  go_ret
  exact ⟨rfl, hb1⟩
theorem sums_walk (s : ByteArray) (L : Int) (n : Nat) (v : Value) (f : Nat → Nat) (w : World) (hB : Bs w v n f) (hf : ∀ i, i < n → f i < 256) (hg : GlobB w) :
    Calls Tryd.prog 3 #[.string s, .int .i64 L, v] w fun e w' => e = .returned (.bool true) ∧ Below w.heap.size w w' := by
  obtain ⟨oa, c, rfl⟩ := hB.form
  by_cases hn : n ≤ 5000
  · have hB' := hB.congr (g := padB n f) (fun i hi => by unfold padB; rw [if_pos hi])
    by_cases hbad : Bad s L
    · refine sums_gen s L 30 n 0 c oa (padB n f) (fun _ => 0) hn ?_ ?_ w hg hB'
      · intro w v _ _
        refine (sum_bad s L v hbad w).mono ?_
        rintro e w' ⟨rfl, rfl⟩
        exact ⟨_, rfl, nilBs _ _, Below.refl _ _⟩
      · intro w v _
        refine (rsum_bad s L v hbad w).mono ?_
        rintro e w' ⟨rfl, rfl⟩
        exact ⟨_, rfl, nilBs _ _, Below.refl _ _⟩
    · have h1 : s.size ≤ 16 := by unfold Bad at hbad; omega
      have h2 : 1 ≤ L.toNat := by unfold Bad at hbad; omega
      have h3 : L.toNat ≤ 64 := by unfold Bad at hbad; omega
      have h4 : L = (L.toNat : Int) := by unfold Bad at hbad; omega
      obtain ⟨l, el⟩ : ∃ l, l = L.toNat := ⟨_, rfl⟩
      rw [← el] at h2 h3 h4
      clear el hbad
      subst h4
      refine sums_gen s l 0 n l c oa (padB n f) (outB (fin (bgS l (pS s) s.size) (padB n f) n)) hn ?_ ?_ w hg hB'
      · intro w v hg hv
        refine (sum_any s l n v (padB n f) h2 h3 h1 (by omega) (padB_lt n f hf) w hg hv).mono ?_
        rintro e w' ⟨g, rfl, _, bG, hb⟩
        exact ⟨_, rfl, bG.Bs (by unfold maxLen; omega), hb⟩
      · intro w v hv
        refine (rsum_any s l n v (padB n f) h2 h3 h1 (by omega) (padB_lt n f hf) w hv).mono ?_
        rintro e w' ⟨o, rfl, hown, hb⟩
        exact ⟨_, rfl, own_Bs hown, hb⟩
  · exact sums_long s L n c oa (by omega) w hg

end Go.Proofs.YtolaofoffakddaaDoor
