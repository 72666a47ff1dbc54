/- What SpareElems does. -/
import Derived.Test.YtobeeoelfmfpdaaDoorPL1
import Derived.Test.YtobeeoelfmfpdaaDoorPFB
namespace Go.Proofs.YtobeeoelfmfpdaaDoor
open Go.RowKit
/-- n elements of f, then marks. -/
def spD (f : Nat → Nat) (n i : Nat) : Nat := if i < n then f i else 901 + (i - n)
theorem spD_lt {f : Nat → Nat} {n : Nat} (hf : ∀ i, i < n → f i < 115792089237316195423570985008687907853269984665640564039457584007913129639936) : ∀ i, i < n + 4 → spD f n i < 115792089237316195423570985008687907853269984665640564039457584007913129639936 := fun i hi => by
  unfold spD
  split
  · exact hf i (by omega)
  · omega
set_option maxHeartbeats 4000000 in
theorem spareD_any (n : Nat) (v : Value) (f : Nat → Nat) (hn : n ≤ 900) (w : World) (h : Es w v n f) :
    Calls Tryd.prog 9 #[v] w fun e w' => ∃ v', e = .returned v' ∧ w'.ownsRow w.heap.size 24 4 v' (n + 4) (els (spD f n) (n + 4)) ∧ Below w.heap.size w w' := by
  obtain ⟨i0, hi, hz0, hz1, hz2⟩ := elemInfo
  have HI := (show Hid _ from hi); have HZ := (show Hid _ from And.intro hz0 (And.intro hz1 hz2)); clear hi hz0 hz1 hz2
  go_enter Tryd.func9, Tryd.ntmps9
  go_wp2_with fail
  refine (copyE_any n v f (by omega) w h).mono ?_
  rintro e w1 ⟨v1, rfl, hown1, hb1⟩
  rw [els_congr (g := spD f n) (fun i hi => by unfold spD; rw [if_pos hi])] at hown1
  have HO1 := (show Hid _ from hown1)
  clear hown1 h
  go_wp2
  go_loopw [3, 4] (fun out i wr => ∃ k : Nat, i = .int .i64 (k : Int) ∧ k ≤ 4 ∧ Below w.heap.size w wr ∧ wr.ownsRow w.heap.size 24 4 out (n + k) (els (spD f n) (n + k))) (fun _ i _ => 4 - (intOf i).toNat)
  case atStart => exact ⟨0, rfl, by decide, hb1, HO1.out⟩
  case round =>
    obtain ⟨k, rfl, hk, hbr, hown2⟩ := hrel
    clear HO1 hb1
    by_cases hlt : k < 4
    · have hki : (k : Int) < 4 := by omega
      obtain ⟨y, ey⟩ : ∃ y : Int, y = 901 + (k : Int) := ⟨_, rfl⟩
      have hw8 : IntKind.u64.wrap (901 + (k : Int)) = y := by rw [IntKind.wrap_u64, ey]; omega
      have EY := (show Hid _ from ey)
      clear ey
      have hsz := hbr.size
      go_wp2_with (first
        | (at_builtin; refine wpList_append_own _ rfl _ _ 25 rfl w.heap.size 24 i0 (.agg #[.int .u64 0, .int .u64 0, .int .u64 0, .int .u64 0]) 4 32 Tryd.underlying25 HI.out HZ.out.1 HZ.out.2.1 HZ.out.2.2 rfl (by decide) _ _ _ rfl (hown2.alloc _) ⟨wr.heap.size, 0, none⟩ 1 1 [.int .u64 y, .int .u64 0, .int .u64 0, .int .u64 0] rfl rfl ?c1 ?c2 ?c3 ?c4 ?c5 ?_)
        | go_in)
      case c1 =>
        intro j u hj
        match j, hj with
        | 0, hj => simp at hj; subst hj; simp [Addr.add]
        | 1, hj => simp at hj; subst hj; simp [Addr.add]
        | 2, hj => simp at hj; subst hj; simp [Addr.add]
        | 3, hj => simp at hj; subst hj; simp [Addr.add]
        | j + 4, hj => simp at hj
      case c2 => intro u hu; simp at hu; rcases hu with rfl | rfl <;> rfl
      case c3 => unfold maxLen; omega
      case c4 => omega
      case c5 => simp; omega
      intro v' w2 hown' hgrow _
      go_wp2
      go_roundw
      case measure => simp [intOf]; omega
      case rel =>
        have hB : Below w.heap.size wr w2 := ((Below.refl _ wr).alloc hsz _).grown hgrow (by simp; omega) (fun j hj => own_block_geE hown2 hj)
        refine ⟨k + 1, by go_num, by omega, hbr.trans hB, ?_⟩
        have es : spD f n (n + k) = 901 + k := by unfold spD; rw [if_neg (by omega)]; omega
        have hsm := limb_small (901 + k)
        rw [← Nat.add_assoc, els_succ, es, hsm 0 (by omega), hsm 1 (by omega), hsm 2 (by omega), hsm 3 (by omega), if_pos rfl, if_neg (by decide), if_neg (by decide), if_neg (by decide), show ((901 + k : Nat) : Int) = y from by rw [EY.out]; omega]
        exact hown'
    · have hki : ¬ (k : Int) < 4 := by omega
      have hk4 : k = 4 := by omega
      subst hk4
      go_wp2
      go_ret
      exact ⟨_, rfl, hown2, hbr⟩
/-- A block that SpareElems has made. -/
def FullD (w : World) (g n c : Nat) (f : Nat → Nat) : Prop := n + 4 ≤ c ∧ c ≤ maxLen ∧ g < w.heap.size ∧ ∀ i, i < n + 4 → ∀ j, j < 4 → w.cell? ⟨g, i * 4 + j, none⟩ = some (.int .u64 ((limb j (spD f n i) : Nat) : Int))
section
variable {w w' : World} {g n c : Nat} {f : Nat → Nat}
theorem FullD.belowAll (h : FullD w g n c f) (hb : Below w.heap.size w w') : FullD w' g n c f :=
  ⟨h.1, h.2.1, Nat.lt_of_lt_of_le h.2.2.1 hb.size, fun i hi j hj => by rw [hb.cell (p := ⟨g, i * 4 + j, none⟩) h.2.2.1]; exact h.2.2.2 i hi j hj⟩
theorem FullD.part (h : FullD w g n c f) : Es w (.slice (some ⟨g, 0, none⟩) n c) n f :=
  Or.inr ⟨g, 0, c, rfl, by have := h.1; omega, h.2.1, h.2.2.1, fun i hi j hj => by rw [Nat.zero_add, h.2.2.2 i (by omega) j hj]; unfold spD; rw [if_pos hi]⟩
theorem FullD.all (h : FullD w g n c f) : Es w (.slice (some ⟨g, 0, none⟩) (n + 4) c) (n + 4) (spD f n) :=
  Or.inr ⟨g, 0, c, rfl, h.1, h.2.1, h.2.2.1, fun i hi j hj => by rw [Nat.zero_add]; exact h.2.2.2 i hi j hj⟩
end
theorem spare_fullD (n : Nat) (v : Value) (f : Nat → Nat) (hn : n ≤ 900) (w : World) (h : Es w v n f) :
    Calls Tryd.prog 9 #[v] w fun e w' => ∃ g c, e = .returned (.slice (some ⟨g, 0, none⟩) (n + 4) c) ∧ FullD w' g n c f ∧ w.heap.size ≤ g ∧ Below w.heap.size w w' := by
  refine (spareD_any n v f hn w h).mono ?_
  rintro e w' ⟨v', rfl, hown, hb⟩
  obtain ⟨_, h2⟩ := hown
  rcases h2 with ⟨_, h0⟩ | ⟨g, c, cur, rfl, h1, h3, h4, h5, h6, h7⟩
  · omega
  · refine ⟨g, c, rfl, ⟨h4, h5, ?_, fun i hi j hj => ?_⟩, h1, hb⟩
    · rcases Nat.lt_or_ge g w'.heap.size with hl | hl
      · exact hl
      · rw [Array.getElem?_eq_none hl] at h3; cases h3
    · have e1 : cur[i * 4 + j]? = (els (spD f n) (n + 4))[i * 4 + j]? := by rw [← h7, List.getElem?_take_of_lt (by omega), Array.getElem?_toList]
      rw [els_get _ _ i j hi hj] at e1
      simp [World.cell?, h3, e1]
end Go.Proofs.YtobeeoelfmfpdaaDoor
