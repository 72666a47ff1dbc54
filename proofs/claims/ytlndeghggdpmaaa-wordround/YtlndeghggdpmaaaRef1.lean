/- What the reference's Bits does: the bits of a number, the least first, in new memory. -/
import Derived.Test.YtlndeghggdpmaaaCore7
import Derived.Test.YtlndeghggdpmaaaNumE
import Derived.OwnWalk
namespace Go.Proofs.Ytlndeghggdpmaaa
open Go.RowKit

def bl (A c : Nat) : List Value := (List.range c).map (fun i => Value.int .i64 ((bitN A i : Nat) : Int))
theorem bl_succ (A c : Nat) : bl A (c + 1) = bl A c ++ [Value.int .i64 ((bitN A c : Nat) : Int)] := by
  unfold bl; rw [List.range_succ, List.map_append]; rfl
theorem bit_limb (A k m : Nat) (hm : m < 64) : limb k A / 2 ^ m % 2 = bitN A (64 * k + m) := by
  unfold limb bitN
  rw [pow64, Nat.pow_add, ← Nat.div_div_eq_div_mul]
  have e : (18446744073709551616 : Nat) = 2 ^ m * 2 ^ (64 - m) := by rw [← Nat.pow_add, show m + (64 - m) = 64 from by omega]
  have e2 : 2 ^ (64 - m) = 2 * 2 ^ (63 - m) := by rw [← Nat.pow_succ']; congr 1; omega
  rw [e, Nat.mod_mul_right_div_self, e2, Nat.mod_mul_right_mod]
theorem new_block (w : World) (o : Obj) : (w.alloc o).heap[w.heap.size]? = some o := by
  show (w.heap.push o)[w.heap.size]? = _; simp
theorem half_next (x l m : Nat) (h : x = l / 2 ^ m) : Value.int IntKind.u64 ((x : Int) / 2) = Value.int IntKind.u64 ((l / 2 ^ (m + 1) : Nat) : Int) := by
  rw [Nat.pow_succ, ← Nat.div_div_eq_div_mul, ← h]
  congr 1
theorem own_block_ge {w : World} {base : Nat} {e : TypeId} {size : Nat} {v : Value} {n : Nat} {xs : List Value} (h : w.ownsRow base e size v n xs) {j : Nat} (hj : v.ownBlock = some j) : base ≤ j := by
  obtain ⟨_, h⟩ := h
  rcases h with ⟨rfl, _⟩ | ⟨g, c, cur, rfl, hb, _⟩
  · simp [Value.ownBlock] at hj
  · simp [Value.ownBlock] at hj; omega
/-- A slice of the call's own that isn't empty: its cells. -/
theorem own_cells {w : World} {base : Nat} {e : TypeId} {v : Value} {n : Nat} {xs : List Value} (h : w.ownsRow base e 1 v n xs) (hn : n ≠ 0) :
    ∃ g c, v = .slice (some ⟨g, 0, none⟩) n c ∧ n ≤ c ∧ base ≤ g ∧ g < w.heap.size ∧ ∀ i, i < n → w.cell? ⟨g, i, none⟩ = xs[i]? := by
  obtain ⟨hl, h⟩ := h
  rcases h with ⟨rfl, h0⟩ | ⟨g, c, cur, rfl, hb, hg, hc, _, hs, ht⟩
  · exact absurd h0 hn
  · refine ⟨g, c, rfl, hc, hb, ?_, ?_⟩
    · rcases Nat.lt_or_ge g w.heap.size with hlt | hge
      · exact hlt
      · rw [Array.getElem?_eq_none hge] at hg; cases hg
    · intro i hi
      rw [← ht]
      simp [World.cell?, hg, hi]
theorem intInfo : ∃ i : TypeInfo, Try.prog.info? 3 = some i ∧ i.zero = some (.int .i64 0) ∧ i.size = 1 ∧ i.bytes = 8 := by
  have h : (Try.prog.info? 3).map (fun i => (i.zero, i.size, i.bytes)) = some (some (.int .i64 0), 1, 8) := by kernel_rfl
  obtain ⟨i, hi, he⟩ := Option.map_eq_some_iff.mp h
  simp only [Prod.mk.injEq] at he
  exact ⟨i, hi, he.1, he.2.1, he.2.2⟩

set_option maxHeartbeats 2000000 in
theorem bits_walk (A : Nat) (w : World) :
    Calls Try.prog 22 #[.agg #[.int .u64 ((limb 0 (A) : Nat) : Int), .int .u64 ((limb 1 (A) : Nat) : Int), .int .u64 ((limb 2 (A) : Nat) : Int), .int .u64 ((limb 3 (A) : Nat) : Int)]] w fun e w' => ∃ v, e = .returned v ∧ w'.ownsRow (w.heap.size + 1) 3 1 v 256 (bl A 256) ∧ Below w.heap.size w w' := by
  obtain ⟨i0, hi, hz0, hz1, hz2⟩ := intInfo
  have HI := (show Hid _ from hi); have HZ := (show Hid _ from And.intro hz0 (And.intro hz1 hz2)); clear hi hz0 hz1 hz2
  go_enter Try.func22, Try.ntmps22
  go_wp2
  go_loopw [3, 4] (fun out i wr => ∃ k : Nat, i = .int .i64 (k : Int) ∧ k ≤ 4 ∧ Below w.heap.size w wr ∧ Blk wr 24 w.heap.size (fun i => limb i A) ∧ wr.ownsRow (w.heap.size + 1) 3 1 out (64 * k) (bl A (64 * k))) (fun _ i _ => 4 - (intOf i).toNat)
  case atStart =>
    refine ⟨0, rfl, by decide, ?_, (Blk.newAt _ _ _ (fun i => limb i A) rfl).alloc _, ?_⟩
    · repeat (first | with_reducible exact Below.refl _ _ | with_reducible refine Below.alloc ?_ (by first | omega | (simp; omega) | simp) _)
    · refine ⟨rfl, Or.inr ⟨w.heap.size + 1, 0, #[], rfl, Nat.le_refl _, ?_, Nat.le_refl _, by decide, rfl, rfl⟩⟩
      rw [show w.heap.size + 1 = (w.alloc (.cells #[.int .u64 ((limb 0 (A) : Nat) : Int), .int .u64 ((limb 1 (A) : Nat) : Int), .int .u64 ((limb 2 (A) : Nat) : Int), .int .u64 ((limb 3 (A) : Nat) : Int)] 24)).heap.size from by simp]
      exact new_block _ _
  case round =>
    obtain ⟨k, rfl, hk, hbr, bA, hown⟩ := hrel
    by_cases hlt : k < 4
    · have hki : (k : Int) < 4 := by omega
      have cA := bA.cell k hlt
      obtain ⟨wo, hwo⟩ : ∃ wo : World, wo = wr := ⟨_, rfl⟩
      subst hwo
      go_wp2
      go_loopw [3, 5, 6] (fun out v j wr => ∃ m : Nat, j = .int .i64 (m : Int) ∧ m ≤ 64 ∧ v = .int .u64 ((limb k A / 2 ^ m : Nat) : Int) ∧ Below w.heap.size w wr ∧ Blk wr 24 w.heap.size (fun i => limb i A) ∧ wr.ownsRow (w.heap.size + 1) 3 1 out (64 * k + m) (bl A (64 * k + m))) (fun _ _ j _ => 64 - (intOf j).toNat)
      case atStart =>
        exact ⟨0, rfl, by decide, by simp, hbr, bA, hown⟩
      case round =>
        obtain ⟨m, rfl, hm, rfl, hbr2, bA2, hown2⟩ := hrel
        by_cases hlt2 : m < 64
        · have hmi : (m : Int) < 64 := by omega
          have hbit := bit_limb A k m hlt2
          obtain ⟨x, hx⟩ : ∃ x, x = limb k A / 2 ^ m := ⟨_, rfl⟩
          rw [← hx] at hbit ⊢
          have hxq : x < 18446744073709551616 := by rw [hx]; exact Nat.lt_of_le_of_lt (Nat.div_le_self _ _) (limb_lt _ _)
          have HB := (show Hid _ from hbit); clear hbit
          have HX := (show Hid _ from hx); clear hx
          have hsz : w.heap.size + 1 ≤ wr.heap.size := bA2.lt
          go_wp2_with (first
            | (at_builtin; refine wpList_append_own _ rfl _ _ 29 rfl (w.heap.size + 1) 3 i0 (.int .i64 0) 1 8 Try.underlying29 HI.out HZ.out.1 HZ.out.2.1 HZ.out.2.2 rfl (by decide) _ _ _ rfl (hown2.alloc _) ⟨wr.heap.size, 0, none⟩ 1 1 [.int .i64 ((x : Int) % 2)] rfl rfl ?c1 ?c2 ?c3 ?c4 ?c5 ?_)
            | go_in)
          case c1 =>
            intro j u hj
            match j, hj with
            | 0, hj => simp at hj; subst hj; simp [Addr.add]
          case c2 => intro u hu; simp at hu; subst hu; rfl
          case c3 => unfold maxLen; omega
          case c4 => omega
          case c5 => simp; omega
          intro v' w2 hown' hgrow _
          go_wp2
          go_roundw
          case measure => simp [intOf]; omega
          case rel =>
            have hB : Below (w.heap.size + 1) wr w2 := ((Below.refl _ wr).alloc hsz _).grown hgrow (by simp; omega) (fun j hj => own_block_ge hown2 hj)
            refine ⟨m + 1, by go_num, by omega, half_next x (limb k A) m HX.out, hbr2.trans (hB.mono (by omega)), bA2.below hB (by omega), ?_⟩
            rw [show 64 * k + (m + 1) = 64 * k + m + 1 from by omega, bl_succ, ← HB.out]
            rw [show ((x : Int) % 2) = ((x % 2 : Nat) : Int) from by omega] at hown'
            exact hown'
        · have hmi : ¬ (m : Int) < 64 := by omega
          have hm64 : m = 64 := by omega
          subst hm64
          go_wp2
          go_roundw
          case measure => simp [intOf]; omega
          case rel => exact ⟨k + 1, by go_num, by omega, hbr2, bA2, by rw [show 64 * (k + 1) = 64 * k + 64 from by omega]; exact hown2⟩
    · have hki : ¬ (k : Int) < 4 := by omega
      have hk4 : k = 4 := by omega
      subst hk4
      go_wp2
      go_ret
      exact ⟨_, rfl, hown, hbr⟩

/-- The reference's Bits: 256 bits in new memory. -/
theorem bits_any (A : Nat) (w : World) :
    Calls Try.prog 22 #[.agg #[.int .u64 ((limb 0 (A) : Nat) : Int), .int .u64 ((limb 1 (A) : Nat) : Int), .int .u64 ((limb 2 (A) : Nat) : Int), .int .u64 ((limb 3 (A) : Nat) : Int)]] w fun e w' => ∃ g c, e = .returned (.slice (some ⟨g, 0, none⟩) 256 c) ∧ 256 ≤ c ∧ w.heap.size ≤ g ∧ g < w'.heap.size ∧ (∀ i, i < 256 → w'.cell? ⟨g, i, none⟩ = some (.int .i64 ((bitN A i : Nat) : Int))) ∧ Below w.heap.size w w' := by
  refine (bits_walk A w).mono ?_
  rintro e w' ⟨v, rfl, hown, hb⟩
  obtain ⟨g, c, rfl, h1, h2, h3, h4⟩ := own_cells hown (by decide)
  exact ⟨g, c, rfl, h1, by omega, h3, fun i hi => by rw [h4 i hi]; simp [bl, hi], hb⟩

end Go.Proofs.Ytlndeghggdpmaaa
