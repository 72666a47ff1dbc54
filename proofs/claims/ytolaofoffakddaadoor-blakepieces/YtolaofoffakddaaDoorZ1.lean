/- Slices of bytes: what Spare does. -/
import Derived.Test.YtolaofoffakddaaDoorY2
namespace Go.Proofs.YtolaofoffakddaaDoor
open Go.RowKit

/-- n bytes of f, then marks. -/
def spB (f : Nat → Nat) (n i : Nat) : Nat := if i < n then f i else 201 + (i - n)
theorem bys_succ (f : Nat → Nat) (n : Nat) : bys f (n + 1) = bys f n ++ [Value.int .u8 ((f n : Nat) : Int)] := by
  unfold bys; rw [List.range_succ, List.map_append]; rfl
theorem bys_congr {f g : Nat → Nat} {n : Nat} (h : ∀ i, i < n → f i = g i) : bys f n = bys g n := by
  unfold bys
  apply List.map_congr_left
  intro i hi
  rw [h i (by simpa using hi)]

set_option maxHeartbeats 2000000 in
theorem spare_any (n : Nat) (v : Value) (f : Nat → Nat) (hn : n ≤ 140737488351232) (w : World) (h : Bs w v n f) :
    Calls Tryd.prog 7 #[v] w fun e w' => ∃ v', e = .returned v' ∧ w'.ownsRow w.heap.size 5 1 v' (n + 8) (bys (spB f n) (n + 8)) ∧ Below w.heap.size w w' := by
  obtain ⟨i0, hi, hz0, hz1, hz2⟩ := byteInfo
  have HI := (show Hid _ from hi); have HZ := (show Hid _ from And.intro hz0 (And.intro hz1 hz2)); clear hi hz0 hz1 hz2
  go_enter Tryd.func7, Tryd.ntmps7
  go_wp2_with fail
  refine (copy_any n v f hn w h).mono ?_
  rintro e w1 ⟨v1, rfl, hown1, hb1⟩
  rw [bys_congr (g := spB f n) (fun i hi => by unfold spB; rw [if_pos hi])] at hown1
  have HO1 := (show Hid _ from hown1)
  clear hown1 h
  go_wp2
  go_loopw [3, 4] (fun out i wr => ∃ k : Nat, i = .int .i64 (k : Int) ∧ k ≤ 8 ∧ Below w.heap.size w wr ∧ wr.ownsRow w.heap.size 5 1 out (n + k) (bys (spB f n) (n + k))) (fun _ i _ => 8 - (intOf i).toNat)
  case atStart => exact ⟨0, rfl, by decide, hb1, HO1.out⟩
  case round =>
    obtain ⟨k, rfl, hk, hbr, hown2⟩ := hrel
    clear HO1 hb1
    by_cases hlt : k < 8
    · have hki : (k : Int) < 8 := by omega
      obtain ⟨y, ey⟩ : ∃ y : Int, y = 201 + (k : Int) := ⟨_, rfl⟩
      have hw8 : IntKind.u8.wrap (201 + (k : Int)) = y := by rw [IntKind.wrap_u8, ey]; omega
      have EY := (show Hid _ from ey)
      clear ey
      have hsz := hbr.size
      go_wp2_with (first
        | (at_builtin; refine wpList_append_own _ rfl _ _ 22 rfl w.heap.size 5 i0 (.int .u8 0) 1 1 Tryd.underlying22 HI.out HZ.out.1 HZ.out.2.1 HZ.out.2.2 rfl (by decide) _ _ _ rfl (hown2.alloc _) ⟨wr.heap.size, 0, none⟩ 1 1 [.int .u8 y] rfl rfl ?c1 ?c2 ?c3 ?c4 ?c5 ?_)
        | go_in)
      case c1 =>
        intro j u hj
        match j, hj with
        | 0, hj => simp at hj; subst hj; simp [Addr.add]
      case c2 => intro u hu; simp at hu; subst hu; rfl
      case c3 => unfold maxLen; omega
      case c4 => omega
      case c5 => simp; omega
      intro v' w2 hown' hgrow _
      go_wp2
      go_roundw
      case measure => simp [intOf]; omega
      case rel =>
        have hB : Below w.heap.size wr w2 := ((Below.refl _ wr).alloc hsz _).grown hgrow (by simp; omega) (fun j hj => own_block_ge' hown2 hj)
        refine ⟨k + 1, by go_num, by omega, hbr.trans hB, ?_⟩
        rw [← Nat.add_assoc, bys_succ, show ((spB f n (n + k) : Nat) : Int) = y from by rw [EY.out]; unfold spB; rw [if_neg (by omega)]; omega]
        exact hown'
    · have hki : ¬ (k : Int) < 8 := by omega
      have hk8 : k = 8 := by omega
      subst hk8
      go_wp2
      go_ret
      exact ⟨_, rfl, hown2, hbr⟩
/-- A slice of bytes of the call's own that isn't empty. -/
theorem own_cellsB {w : World} {base : Nat} {v : Value} {n : Nat} {f : Nat → Nat} (h : w.ownsRow base 5 1 v n (bys f n)) (hn : n ≠ 0) :
    ∃ g c, v = .slice (some ⟨g, 0, none⟩) n c ∧ n ≤ c ∧ c ≤ maxLen ∧ base ≤ g ∧ g < w.heap.size ∧ ∀ i, i < n → w.cell? ⟨g, i, none⟩ = some (.int .u8 ((f i : Nat) : Int)) := by
  obtain ⟨hl, h⟩ := h
  rcases h with ⟨rfl, h0⟩ | ⟨g, c, cur, rfl, hb, hg, hc, hm, hs, ht⟩
  · exact absurd h0 hn
  · refine ⟨g, c, rfl, hc, hm, hb, ?_, ?_⟩
    · rcases Nat.lt_or_ge g w.heap.size with hlt | hge
      · exact hlt
      · rw [Array.getElem?_eq_none hge] at hg; cases hg
    · intro i hi
      have h1 : cur[i]? = (bys f n)[i]? := by rw [← ht]; simp [hi]
      rw [bys_get f n i hi] at h1
      simp [World.cell?, hg, h1]
theorem addr_at (g i : Nat) : (⟨g, 0, none⟩ : Addr).add i = ⟨g, i, none⟩ := by unfold Addr.add; split <;> simp_all
/-- The first n cells of a block, as bytes. -/
theorem cells_Bs {w : World} {g n c : Nat} {f : Nat → Nat} (h1 : n ≤ c) (h2 : c ≤ maxLen) (h3 : g < w.heap.size) (h4 : ∀ i, i < n → w.cell? ⟨g, i, none⟩ = some (.int .u8 ((f i : Nat) : Int))) : Bs w (.slice (some ⟨g, 0, none⟩) n c) n f :=
  Or.inr ⟨⟨g, 0, none⟩, c, rfl, h1, h2, h3, fun i hi => by rw [addr_at]; exact h4 i hi⟩

end Go.Proofs.YtolaofoffakddaaDoor
