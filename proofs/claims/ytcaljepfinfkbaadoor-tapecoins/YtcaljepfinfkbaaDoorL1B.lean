/- Long lists copied and compared. -/
import Derived.Test.YtcaljepfinfkbaaDoorL1
namespace Go.Proofs.YtcaljepfinfkbaaDoor
open Go.RowKit

set_option maxHeartbeats 2000000 in
theorem copyB_some (n cn a oa : Nat) (f : Nat → Nat) (hn : n ≤ 4398046510976) (w : World) (ha : a < w.heap.size) (hc : ∀ i, i < n → ∀ j, j < 4 → w.cell? ⟨a, oa + i * 4 + j, none⟩ = some (.int .u64 ((limb j (f i) : Nat) : Int))) :
    Calls Tryd.prog 5 #[.slice (some ⟨a, oa, none⟩) n cn] w fun e w' => ∃ v, e = .returned v ∧ w'.ownsRow w.heap.size 29 4 v n (els f n) ∧ Below w.heap.size w w' := by
  obtain ⟨i0, hi, hz0, hz1, hz2⟩ := elemInfo
  have HI := (show Hid _ from hi); have HZ := (show Hid _ from And.intro hz0 (And.intro hz1 hz2)); clear hi hz0 hz1 hz2
  have HC := (show Hid _ from hc); clear hc
  have hown0 : (w.alloc (.cells #[] 29)).ownsRow w.heap.size 29 4 (.slice (some ⟨w.heap.size, 0, none⟩) 0 0) 0 [] :=
    ⟨rfl, Or.inr ⟨w.heap.size, 0, #[], rfl, Nat.le_refl _, new_blockE _ _, Nat.le_refl _, by decide, rfl, rfl⟩⟩
  have HO : Hid ((w.alloc (.cells #[] 29)).ownsRow w.heap.size 29 4 (.slice (some ⟨w.heap.size, 0, none⟩) 0 0) 0 []) := hown0
  clear hown0
  go_enter Tryd.func5, Tryd.ntmps5
  go_wp2_with (first
    | (at_builtin; refine wpList_append_own _ rfl _ _ 22 rfl w.heap.size 29 i0 (.agg #[.int .u64 0, .int .u64 0, .int .u64 0, .int .u64 0]) 4 32 Tryd.underlying22 HI.out HZ.out.1 HZ.out.2.1 HZ.out.2.2 rfl (by decide) _ _ _ rfl HO.out ⟨a, oa, none⟩ n cn (els f n) rfl ?c0 ?c1 ?c2 ?c3 ?c4 ?c5 ?_)
    | go_in)
  case c0 => exact els_len f n
  case c1 =>
    intro j u hj
    have hjn : j < n * 4 := by
      rcases Nat.lt_or_ge j (n * 4) with h | h
      · exact h
      · rw [List.getElem?_eq_none (by rw [els_len]; exact h)] at hj; cases hj
    have e := els_get f n (j / 4) (j % 4) (by omega) (by omega)
    rw [show j / 4 * 4 + j % 4 = j from by omega, hj] at e
    cases e
    have hb : Below w.heap.size w (w.alloc (.cells #[] 29)) := (Below.refl _ _).alloc (Nat.le_refl _) _
    have hadd : (⟨a, oa, none⟩ : Addr).add j = ⟨a, oa + j / 4 * 4 + j % 4, none⟩ := by
      have e2 : oa + j / 4 * 4 + j % 4 = oa + j := by omega
      rw [e2]; unfold Addr.add; split <;> simp_all
    rw [hadd, hb.cell (p := ⟨a, oa + j / 4 * 4 + j % 4, none⟩) ha]
    exact HC.out (j / 4) (by omega) (j % 4) (by omega)
  case c2 => intro u hu; unfold els at hu; obtain ⟨i, _, rfl⟩ := List.mem_map.mp hu; rfl
  case c3 => unfold maxLen; omega
  case c4 => omega
  case c5 => simp
  intro v' w2 hown' hgrow _
  go_wp2
  go_ret
  refine ⟨_, rfl, ?_, ?_⟩
  · exact hown'
  · exact ((Below.refl _ w).alloc (Nat.le_refl _) _).grown hgrow (by simp) (fun j hj => own_block_geE HO.out hj)
/-- CopyElems: the same elements in new memory. -/
theorem copyB_any (n : Nat) (v : Value) (f : Nat → Nat) (hn : n ≤ 4398046510976) (w : World) (h : Es w v n f) :
    Calls Tryd.prog 5 #[v] w fun e w' => ∃ v', e = .returned v' ∧ w'.ownsRow w.heap.size 29 4 v' n (els f n) ∧ Below w.heap.size w w' := by
  rcases h with ⟨rfl, rfl⟩ | ⟨b, o, c, rfl, _, _, hb, hc⟩
  · exact copyE_nil w
  · exact copyB_some n c b o f hn w hb hc

end Go.Proofs.YtcaljepfinfkbaaDoor
