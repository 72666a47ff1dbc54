/- BlakePieces' walk, of anything. -/
import Derived.Test.YtolaofoffakddaaDoorP2
namespace Go.Proofs.YtolaofoffakddaaDoor
open Go.RowKit

set_option maxHeartbeats 2000000 in
theorem pieces_bad (s : ByteArray) (L : Int) (op : Option Addr) (np cp : Nat) (hnp : np ≤ 50) (hbad : Bad s L) (w : World) (hg : GlobB w) :
    Calls Tryd.prog 4 #[.string s, .int .i64 L, .slice op np cp] w fun e w' => e = .returned (.bool true) ∧ Below w.heap.size w w' := by
  have HG : Hid (GlobB w) := hg
  have HN : Hid (∀ w, _) := fun w => new_bad s L hbad w
  have HR : Hid (∀ w, _) := fun w => rsum_bad s L (.slice none 0 0) hbad w
  have hn50 : ¬ (50 : Int) < (np : Int) := by omega
  clear hg hbad
  go_enter Tryd.func4, Tryd.ntmps4
  go_wp2_with fail
  refine (aliveB_any _ HG.out).mono ?_
  rintro e w1 ⟨rfl, hb1⟩
  go_wp2_with fail
  refine (HN.out w1).mono ?_
  rintro e w2 ⟨rfl, hw2⟩
  rw [hw2]
  clear hw2
  go_wp2_with fail
  refine (HR.out w1).mono ?_
  rintro e w3 ⟨rfl, hw3⟩
  rw [hw3]
  clear hw3
  go_wp2
  go_ret
  exact ⟨rfl, hb1⟩
set_option maxHeartbeats 2000000 in
theorem pieces_many (s : ByteArray) (L : Int) (op : Option Addr) (np cp : Nat) (hnp : 50 < np) (w : World) (hg : GlobB w) :
    Calls Tryd.prog 4 #[.string s, .int .i64 L, .slice op np cp] w fun e w' => e = .returned (.bool true) ∧ Below w.heap.size w w' := by
  have HG : Hid (GlobB w) := hg
  have hn50 : (50 : Int) < (np : Int) := by omega
  clear hg
  go_enter Tryd.func4, Tryd.ntmps4
  go_wp2_with fail
  refine (aliveB_any _ HG.out).mono ?_
  rintro e w1 ⟨rfl, hb1⟩
  go_wp2
  go_ret
  exact ⟨rfl, hb1⟩
theorem Bz.congr {w : World} {oa : Option Addr} {n c : Nat} {f g : Nat → Nat} (h : Bz w oa n c f) (hg : ∀ i, i < n → g i = f i) : Bz w oa n c g :=
  ⟨h.1, h.2.1, h.2.2.1, fun a e i hi => by rw [hg i hi]; exact h.2.2.2 a e i hi⟩
theorem pieces_walk (s : ByteArray) (L : Int) (op : Option Addr) (np cp : Nat) (A : Nat → Option Addr) (Ln C : Nat → Nat) (F : Nat → Nat → Nat) (w : World) (hp : Pcs w op np A Ln C F) (hLn : ∀ r, r < np → Ln r ≤ 140737488351232) (hF : ∀ r, r < np → ∀ i, i < Ln r → F r i < 256) (hg : GlobB w) :
    Calls Tryd.prog 4 #[.string s, .int .i64 L, .slice op np cp] w fun e w' => e = .returned (.bool true) ∧ Below w.heap.size w w' := by
  by_cases hn : np ≤ 50
  · by_cases hbad : Bad s L
    · exact pieces_bad s L op np cp hn hbad w hg
    · have h1 : s.size ≤ 16 := by unfold Bad at hbad; omega
      have h2 : 1 ≤ L.toNat := by unfold Bad at hbad; omega
      have h3 : L.toNat ≤ 64 := by unfold Bad at hbad; omega
      have h4 : L = (L.toNat : Int) := by unfold Bad at hbad; omega
      obtain ⟨l, el⟩ : ∃ l, l = L.toNat := ⟨_, rfl⟩
      rw [← el] at h2 h3 h4
      clear el hbad
      subst h4
      refine pieces_ok s l op np cp A Ln C (fun r i => if r < np ∧ i < Ln r then F r i else 0) h2 h3 h1 hn hLn ?_ w hg ?_
      · intro r i
        split
        · next h => exact hF r h.1 i h.2
        · decide
      · intro r hr
        obtain ⟨a, e, k1, k2, k3⟩ := hp r hr
        exact ⟨a, e, k1, k2, k3.congr (fun i hi => if_pos ⟨hr, hi⟩)⟩
  · exact pieces_many s L op np cp (by omega) w hg

end Go.Proofs.YtolaofoffakddaaDoor
