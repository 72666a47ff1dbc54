/- What blake.Sum does. -/
import Derived.Test.YtolaofoffakddaaDoorB12
import Derived.Test.YtolaofoffakddaaDoorB8N
namespace Go.Proofs.YtolaofoffakddaaDoor
open Go.RowKit

theorem Bs.block {w : World} {v : Value} {n : Nat} {f : Nat → Nat} (h : Bs w v n f) : ∀ a m c, v = .slice (some a) m c → a.block < w.heap.size := by
  intro a m c e
  rcases h with ⟨h, _⟩ | ⟨a', c', hv, _, _, h3, _⟩
  · rw [h] at e; cases e
  · rw [hv] at e; cases e; exact h3
/-- A digest that has taken nothing. -/
theorem Dg.new {w : World} {d L : Nat} {st B : Nat → Nat} (h : BlkV w 48 d 139 (digV L st 0 (fun _ => 0) 0)) : Dg w d L st B 0 :=
  ⟨0, 0, fun _ => 0, rfl, by decide, fun _ => rfl, h, fun j hj => by omega, fun _ _ => (by show (0 : Nat) < 256; decide)⟩

set_option maxHeartbeats 4000000 in
set_option maxRecDepth 20000 in
/-- blake.Sum of what isn't refused. -/
theorem sum_any (s : ByteArray) (L n : Nat) (v : Value) (f : Nat → Nat) (hL1 : 1 ≤ L) (hL2 : L ≤ 64) (hs : s.size ≤ 16) (hn : n ≤ 100000) (hf : ∀ i, f i < 256) (w : World) (hg : GlobB w) (hv : Bs w v n f) :
    Calls Tryd.prog 8 #[.string s, .int .i64 (L : Int), v] w fun e w' => ∃ g, e = .returned (.tuple #[.slice (some ⟨g, 0, none⟩) L L, .int .i64 0]) ∧ w.heap.size ≤ g ∧ BlkB w' 5 g L (outB (fin (bgS L (pS s) s.size) f n)) ∧ Below w.heap.size w w' := by
  have HG : Hid (GlobB w) := hg
  have HV : Hid (Bs w v n f) := hv
  have hst : ∀ i, bgS L (pS s) s.size i < 18446744073709551616 := bgS_lt L (pS s) s.size (by omega)
  have C := new_any s L hL1 hL2 hs w hg
  obtain ⟨st, est⟩ : ∃ st, st = bgS L (pS s) s.size := ⟨_, rfl⟩
  rw [← est] at C hst ⊢
  have HC := (show Hid _ from fun (_ : Unit) => C)
  have HST := (show Hid _ from hst); have HF := (show Hid _ from hf)
  have HP := (show Hid _ from And.intro hL1 (And.intro hL2 hn))
  clear C hg hv hst hf est hs hL1 hL2 hn
  go_enter Tryd.func8, Tryd.ntmps8
  go_wp2_with fail
  refine (HC.out ()).mono ?_
  rintro e w1 ⟨d, rfl, hd, bD, hb1⟩
  have hv1 := HV.out.below hb1
  have hblk := HV.out.block
  have G1 : GlobB w1 := HG.out.below hb1
  have W := write_any d L 0 n v st f HST.out HF.out (by have := HP.out.2.2; omega) (Nat.le_trans HG.out.1 hd) w1 G1 (Dg.new bD) (by simpa only [Nat.zero_add] using hv1) (fun a m c e => by have := hblk a m c e; omega)
  have HW := (show Hid _ from fun (_ : Unit) => W)
  have HG1 : Hid (GlobB w1) := G1
  clear W HC bD hv1 hblk G1
  go_wp2_with fail
  refine (HW.out ()).mono ?_
  rintro e w2 ⟨rfl, hK, hD2⟩
  rw [Nat.zero_add] at hD2
  have SD := sumD_any d L n st f HST.out HP.out.2.2 HP.out.1 HP.out.2.1 w2 (hK.glob (Nat.le_trans HG.out.1 hd) HG1.out) hD2
  have HSD := (show Hid _ from fun (_ : Unit) => SD)
  have hb2 : Below w.heap.size w w2 := hb1.trans (hK.below hd hb1.size)
  clear SD HW hD2 hK
  go_wp2_with fail
  refine (HSD.out ()).mono ?_
  rintro e w3 ⟨g, rfl, hg3, bG, hb3⟩
  have hb4 := bStep hb2 hb3
  have hle := hb2.size
  clear HSD
  go_wp2
  go_ret2
  exact ⟨g, rfl, by omega, bG, hb4⟩

end Go.Proofs.YtolaofoffakddaaDoor
