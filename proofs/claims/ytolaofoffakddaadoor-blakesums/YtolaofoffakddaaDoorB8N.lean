/- What blake.New does. -/
import Derived.Test.YtolaofoffakddaaDoorB8
namespace Go.Proofs.YtolaofoffakddaaDoor
open Go.RowKit

set_option maxHeartbeats 4000000 in
set_option maxRecDepth 20000 in
/-- blake.New of what isn't refused. -/
theorem new_any (s : ByteArray) (L : Nat) (hL1 : 1 ≤ L) (hL2 : L ≤ 64) (hs : s.size ≤ 16) (w : World) (hg : GlobB w) :
    Calls Tryd.prog 11 #[.string s, .int .i64 (L : Int)] w fun e w' => ∃ d, e = .returned (.tuple #[.pointer (some ⟨d, 0, none⟩), .int .i64 0]) ∧ w.heap.size ≤ d ∧ BlkV w' 48 d 139 (digV L (bgS L (pS s) s.size) 0 (fun _ => 0) 0) ∧ Below w.heap.size w w' := by
  have C := begin_any s L (by omega) hL2 hs w hg
  have BD := build_dig L (bgS L (pS s) s.size)
  have HN := (show Hid _ from (And.intro (newD_size L (bgS L (pS s) s.size)) (newD_get L (bgS L (pS s) s.size))))
  obtain ⟨z, ez⟩ : ∃ z, z = bgS L (pS s) s.size := ⟨_, rfl⟩
  rw [← ez] at C BD HN
  obtain ⟨c, ec⟩ : ∃ c, c = newD L z := ⟨_, rfl⟩
  rw [← ec] at BD HN
  have EZ := (show Hid _ from ez)
  obtain ⟨n, en⟩ : ∃ n, n = s.size := ⟨_, rfl⟩
  have hsz : s.size = n := en.symm
  have h1 : ¬ (16 : Int) < (n : Int) := by omega
  have h2 : ¬ (L : Int) < 1 := by omega
  have h3 : ¬ (64 : Int) < (L : Int) := by omega
  have HC := (show Hid _ from fun (_ : Unit) => C)
  have HBD := (show Hid _ from BD)
  clear C ez ec en hg BD
  go_enter Tryd.func11, Tryd.ntmps11
  go_wp2_with fail
  refine (HC.out ()).mono ?_
  rintro e w1 ⟨rfl, hb1⟩
  go_wp2_with (refine wpList_build rfl 48 _ rfl #[(0, .int .i64 ((L : Nat) : Int)), (1, .agg #[.int .u64 ((z 0 : Nat) : Int), .int .u64 ((z 1 : Nat) : Int), .int .u64 ((z 2 : Nat) : Int), .int .u64 ((z 3 : Nat) : Int), .int .u64 ((z 4 : Nat) : Int), .int .u64 ((z 5 : Nat) : Int), .int .u64 ((z 6 : Nat) : Int), .int .u64 ((z 7 : Nat) : Int)])] (by simp only [List.map_toArray, List.map_cons, List.map_nil]; rfl) _ (HBD.out w1) ?_)
  go_ret2
  refine ⟨w1.heap.size, rfl, hb1.size, ?_, bAlloc hb1 _⟩
  rw [← EZ.out]
  exact BlkV.newAt _ _ _ 139 _ _ rfl HN.out.1 HN.out.2

end Go.Proofs.YtolaofoffakddaaDoor
