/- The first reference: Bits, below, minus, twice, Rem. -/
import Derived.Test.YtlndeghggdpmaacDoorGA
import Derived.Test.YtlndeghggdpmaacDoorCore7
import Derived.Test.YtlndeghggdpmaacDoorNum5
import Derived.OwnWalk
namespace Go.Proofs.YtlndeghggdpmaacDoor
open Go.RowKit

def bl (A c : Nat) : List Value := (List.range c).map (fun i => Value.int .i64 ((bitN A i : Nat) : Int))
theorem bl_get (A c i : Nat) (hi : i < c) : (bl A c)[i]? = some (.int .i64 ((bitN A i : Nat) : Int)) := by simp [bl, hi]


theorem bl_succ (A c : Nat) : bl A (c + 1) = bl A c ++ [Value.int .i64 ((bitN A c : Nat) : Int)] := by
  unfold bl; rw [List.range_succ, List.map_append]; rfl
theorem bit_limb' (A k m : Nat) (hm : m < 64) : limb k A / 2 ^ m % 2 = bitN A (64 * k + m) := by
  unfold limb bitN
  rw [pow64, Nat.pow_add, ← Nat.div_div_eq_div_mul]
  have e : (18446744073709551616 : Nat) = 2 ^ m * 2 ^ (64 - m) := by rw [← Nat.pow_add, show m + (64 - m) = 64 from by omega]
  have e2 : 2 ^ (64 - m) = 2 * 2 ^ (63 - m) := by rw [← Nat.pow_succ']; congr 1; omega
  rw [e, Nat.mod_mul_right_div_self, e2, Nat.mod_mul_right_mod]
theorem new_block (w : World) (o : Obj) : (w.alloc o).heap[w.heap.size]? = some o := by
  show (w.heap.push o)[w.heap.size]? = _; simp
theorem half_next (x l m : Nat) (h : x = l / 2 ^ m) : Value.int IntKind.u64 ((x : Int) / 2) = Value.int IntKind.u64 ((l / 2 ^ (m + 1) : Nat) : Int) := by
  rw [Nat.pow_succ, ← Nat.div_div_eq_div_mul, ← h]
  congr 1
theorem own_block_ge {w : World} {base : Nat} {e : TypeId} {size : Nat} {v : Value} {n : Nat} {xs : List Value} (h : w.ownsRow base e size v n xs) {j : Nat} (hj : v.ownBlock = some j) : base ≤ j := by
  obtain ⟨_, h⟩ := h
  rcases h with ⟨rfl, _⟩ | ⟨g, c, cur, rfl, hb, _⟩
  · simp [Value.ownBlock] at hj
  · simp [Value.ownBlock] at hj; omega
/-- A slice of the call's own that isn't empty: its cells. -/
theorem own_cells {w : World} {base : Nat} {e : TypeId} {v : Value} {n : Nat} {xs : List Value} (h : w.ownsRow base e 1 v n xs) (hn : n ≠ 0) :
    ∃ g c, v = .slice (some ⟨g, 0, none⟩) n c ∧ n ≤ c ∧ base ≤ g ∧ g < w.heap.size ∧ ∀ i, i < n → w.cell? ⟨g, i, none⟩ = xs[i]? := by
  obtain ⟨hl, h⟩ := h
  rcases h with ⟨rfl, h0⟩ | ⟨g, c, cur, rfl, hb, hg, hc, _, hs, ht⟩
  · exact absurd h0 hn
  · refine ⟨g, c, rfl, hc, hb, ?_, ?_⟩
    · rcases Nat.lt_or_ge g w.heap.size with hlt | hge
      · exact hlt
      · rw [Array.getElem?_eq_none hge] at hg; cases hg
    · intro i hi
      rw [← ht]
      simp [World.cell?, hg, hi]
theorem intInfo : ∃ i : TypeInfo, Tryd.prog.info? 3 = some i ∧ i.zero = some (.int .i64 0) ∧ i.size = 1 ∧ i.bytes = 8 := by
  have h : (Tryd.prog.info? 3).map (fun i => (i.zero, i.size, i.bytes)) = some (some (.int .i64 0), 1, 8) := by kernel_rfl
  obtain ⟨i, hi, he⟩ := Option.map_eq_some_iff.mp h
  simp only [Prod.mk.injEq] at he
  exact ⟨i, hi, he.1, he.2.1, he.2.2⟩

set_option maxHeartbeats 2000000 in
theorem bits_walk (A : Nat) (w : World) :
    Calls Tryd.prog 57 #[.agg #[.int .u64 ((limb 0 (A) : Nat) : Int), .int .u64 ((limb 1 (A) : Nat) : Int), .int .u64 ((limb 2 (A) : Nat) : Int), .int .u64 ((limb 3 (A) : Nat) : Int)]] w fun e w' => ∃ v, e = .returned v ∧ w'.ownsRow (w.heap.size + 1) 3 1 v 256 (bl A 256) ∧ Below w.heap.size w w' := by
  obtain ⟨i0, hi, hz0, hz1, hz2⟩ := intInfo
  have HI := (show Hid _ from hi); have HZ := (show Hid _ from And.intro hz0 (And.intro hz1 hz2)); clear hi hz0 hz1 hz2
  go_enter Tryd.func57, Tryd.ntmps57
  go_wp2
  go_loopw [3, 4] (fun out i wr => ∃ k : Nat, i = .int .i64 (k : Int) ∧ k ≤ 4 ∧ Below w.heap.size w wr ∧ Blk wr 24 w.heap.size (fun i => limb i A) ∧ wr.ownsRow (w.heap.size + 1) 3 1 out (64 * k) (bl A (64 * k))) (fun _ i _ => 4 - (intOf i).toNat)
  case atStart =>
    refine ⟨0, rfl, by decide, ?_, (Blk.newAt _ _ _ (fun i => limb i A) rfl).alloc _, ?_⟩
    · repeat (first | with_reducible exact Below.refl _ _ | with_reducible refine Below.alloc ?_ (by first | omega | (simp; omega) | simp) _)
    · refine ⟨rfl, Or.inr ⟨w.heap.size + 1, 0, #[], rfl, Nat.le_refl _, ?_, Nat.le_refl _, by decide, rfl, rfl⟩⟩
      rw [show w.heap.size + 1 = (w.alloc (.cells #[.int .u64 ((limb 0 (A) : Nat) : Int), .int .u64 ((limb 1 (A) : Nat) : Int), .int .u64 ((limb 2 (A) : Nat) : Int), .int .u64 ((limb 3 (A) : Nat) : Int)] 24)).heap.size from by simp]
      exact new_block _ _
  case round =>
    obtain ⟨k, rfl, hk, hbr, bA, hown⟩ := hrel
    by_cases hlt : k < 4
    · have hki : (k : Int) < 4 := by omega
      have cA := bA.cell k hlt
      obtain ⟨wo, hwo⟩ : ∃ wo : World, wo = wr := ⟨_, rfl⟩
      subst hwo
      go_wp2
      go_loopw [3, 5, 6] (fun out v j wr => ∃ m : Nat, j = .int .i64 (m : Int) ∧ m ≤ 64 ∧ v = .int .u64 ((limb k A / 2 ^ m : Nat) : Int) ∧ Below w.heap.size w wr ∧ Blk wr 24 w.heap.size (fun i => limb i A) ∧ wr.ownsRow (w.heap.size + 1) 3 1 out (64 * k + m) (bl A (64 * k + m))) (fun _ _ j _ => 64 - (intOf j).toNat)
      case atStart =>
        exact ⟨0, rfl, by decide, by simp, hbr, bA, hown⟩
      case round =>
        obtain ⟨m, rfl, hm, rfl, hbr2, bA2, hown2⟩ := hrel
        by_cases hlt2 : m < 64
        · have hmi : (m : Int) < 64 := by omega
          have hbit := bit_limb' A k m hlt2
          obtain ⟨x, hx⟩ : ∃ x, x = limb k A / 2 ^ m := ⟨_, rfl⟩
          rw [← hx] at hbit ⊢
          have hxq : x < 18446744073709551616 := by rw [hx]; exact Nat.lt_of_le_of_lt (Nat.div_le_self _ _) (limb_lt _ _)
          have HB := (show Hid _ from hbit); clear hbit
          have HX := (show Hid _ from hx); clear hx
          have hsz : w.heap.size + 1 ≤ wr.heap.size := bA2.lt
          go_wp2_with (first
            | (at_builtin; refine wpList_append_own _ rfl _ _ 78 rfl (w.heap.size + 1) 3 i0 (.int .i64 0) 1 8 Tryd.underlying78 HI.out HZ.out.1 HZ.out.2.1 HZ.out.2.2 rfl (by decide) _ _ _ rfl (hown2.alloc _) ⟨wr.heap.size, 0, none⟩ 1 1 [.int .i64 ((x : Int) % 2)] rfl rfl ?c1 ?c2 ?c3 ?c4 ?c5 ?_)
            | go_in)
          case c1 =>
            intro j u hj
            match j, hj with
            | 0, hj => simp at hj; subst hj; simp [Addr.add]
          case c2 => intro u hu; simp at hu; subst hu; rfl
          case c3 => unfold maxLen; omega
          case c4 => omega
          case c5 => simp; omega
          intro v' w2 hown' hgrow _
          go_wp2
          go_roundw
          case measure => simp [intOf]; omega
          case rel =>
            have hB : Below (w.heap.size + 1) wr w2 := ((Below.refl _ wr).alloc hsz _).grown hgrow (by simp; omega) (fun j hj => own_block_ge hown2 hj)
            refine ⟨m + 1, by go_num, by omega, half_next x (limb k A) m HX.out, hbr2.trans (hB.mono (by omega)), bA2.below hB (by omega), ?_⟩
            rw [show 64 * k + (m + 1) = 64 * k + m + 1 from by omega, bl_succ, ← HB.out]
            rw [show ((x : Int) % 2) = ((x % 2 : Nat) : Int) from by omega] at hown'
            exact hown'
        · have hmi : ¬ (m : Int) < 64 := by omega
          have hm64 : m = 64 := by omega
          subst hm64
          go_wp2
          go_roundw
          case measure => simp [intOf]; omega
          case rel => exact ⟨k + 1, by go_num, by omega, hbr2, bA2, by rw [show 64 * (k + 1) = 64 * k + 64 from by omega]; exact hown2⟩
    · have hki : ¬ (k : Int) < 4 := by omega
      have hk4 : k = 4 := by omega
      subst hk4
      go_wp2
      go_ret
      exact ⟨_, rfl, hown, hbr⟩

/-- The reference's Bits: 256 bits in new memory. -/
theorem bits_any (A : Nat) (w : World) :
    Calls Tryd.prog 57 #[.agg #[.int .u64 ((limb 0 (A) : Nat) : Int), .int .u64 ((limb 1 (A) : Nat) : Int), .int .u64 ((limb 2 (A) : Nat) : Int), .int .u64 ((limb 3 (A) : Nat) : Int)]] w fun e w' => ∃ g c, e = .returned (.slice (some ⟨g, 0, none⟩) 256 c) ∧ 256 ≤ c ∧ w.heap.size ≤ g ∧ g < w'.heap.size ∧ (∀ i, i < 256 → w'.cell? ⟨g, i, none⟩ = some (.int .i64 ((bitN A i : Nat) : Int))) ∧ Below w.heap.size w w' := by
  refine (bits_walk A w).mono ?_
  rintro e w' ⟨v, rfl, hown, hb⟩
  obtain ⟨g, c, rfl, h1, h2, h3, h4⟩ := own_cells hown (by decide)
  exact ⟨g, c, rfl, h1, by omega, h3, fun i hi => by rw [h4 i hi]; simp [bl, hi], hb⟩

set_option maxHeartbeats 4000000 in
set_option maxRecDepth 20000 in
/-- The reference's below. -/
theorem refBelow_any (A B : Nat) (hA : A < 115792089237316195423570985008687907853269984665640564039457584007913129639936) (hB : B < 115792089237316195423570985008687907853269984665640564039457584007913129639936) (w : World) :
    Calls Tryd.prog 59 #[.agg #[.int .u64 ((limb 0 (A) : Nat) : Int), .int .u64 ((limb 1 (A) : Nat) : Int), .int .u64 ((limb 2 (A) : Nat) : Int), .int .u64 ((limb 3 (A) : Nat) : Int)], .agg #[.int .u64 ((limb 0 (B) : Nat) : Int), .int .u64 ((limb 1 (B) : Nat) : Int), .int .u64 ((limb 2 (B) : Nat) : Int), .int .u64 ((limb 3 (B) : Nat) : Int)]] w fun e w' => e = .returned (.bool (below256 A B)) ∧ Below w.heap.size w w' := by
  go_enter Tryd.func59, Tryd.ntmps59
  go_wp2
  go_loopw [5] (fun i wr => ∃ k : Nat, i = .int .i64 ((k : Int) - 1) ∧ k ≤ 4 ∧ A / 18446744073709551616 ^ k = B / 18446744073709551616 ^ k ∧ Below w.heap.size w wr ∧ Blk wr 24 w.heap.size (fun i => limb i A) ∧ Blk wr 24 (w.heap.size + 1) (fun i => limb i B)) (fun i _ => (intOf i + 1).toNat)
  case atStart =>
    refine ⟨4, rfl, by decide, ?_, ?_, (Blk.newAt _ _ _ (fun i => limb i A) rfl).alloc _, Blk.newAt _ _ _ (fun i => limb i B) (by simp)⟩
    · rw [show (18446744073709551616 : Nat) ^ 4 = 115792089237316195423570985008687907853269984665640564039457584007913129639936 from by decide, Nat.div_eq_of_lt hA, Nat.div_eq_of_lt hB]
    · repeat (first | with_reducible exact Below.refl _ _ | with_reducible refine Below.alloc ?_ (by first | omega | (simp; omega) | simp) _)
  case round =>
    obtain ⟨k, rfl, hk, heq, hbr, bA, bB⟩ := hrel
    by_cases hk0 : k = 0
    · subst hk0
      have he := word_end A B heq
      have HE := (show Hid _ from he)
      clear heq he
      go_wp2
      go_ret
      exact ⟨by rw [HE.out]; rfl, hbr⟩
    · obtain ⟨m, rfl⟩ : ∃ m, k = m + 1 := ⟨k - 1, by omega⟩
      have e1 : ((m + 1 : Nat) : Int) - 1 = (m : Int) := by omega
      rw [e1]
      have hm0 : (0 : Int) ≤ (m : Int) := by omega
      have hmn : (m : Int) < 4 := by omega
      have cA := bA.cell m (by omega)
      have cB := bB.cell m (by omega)
      clear e1
      by_cases hbit : limb m A = limb m B
      · have hs := word_step A B m heq hbit
        rw [hbit] at cA
        have HS := (show Hid _ from hs)
        clear hs heq hbit
        go_wp2_with fail
        go_quiet (fail)
        go_wp2
        go_roundw
        case measure => simp [intOf]
        case rel =>
          exact ⟨m, rfl, by omega, HS.out, below_drewN hbr _, bA, bB⟩
      · have hs := word_less A B m heq hbit
        obtain ⟨a, ea⟩ : ∃ a : Int, a = ((limb m A : Nat) : Int) := ⟨_, rfl⟩
        obtain ⟨b, eb⟩ : ∃ b : Int, b = ((limb m B : Nat) : Int) := ⟨_, rfl⟩
        rw [← ea] at cA hs
        rw [← eb] at cB hs
        have hab : ¬ a = b := by omega
        have hab' : (a != b) = true := by simpa using hab
        have HS := (show Hid _ from hs)
        clear hs heq hbit ea eb hab
        go_wp2_with fail
        go_quiet (fail)
        go_wp2_with fail
        go_quiet (fail)
        go_wp2
        refine bodyPost_ret (v := .bool (decide (a < b))) (by simp [results, Tryd.results59, go_sem]) rfl ⟨by rw [HS.out], ?_⟩
        exact below_drewN (below_drewN hbr _) _

set_option maxHeartbeats 4000000 in
set_option maxRecDepth 20000 in
/-- The reference's minus. -/
theorem refMinus_any (A B : Nat) (hA : A < 115792089237316195423570985008687907853269984665640564039457584007913129639936) (hB : B < 115792089237316195423570985008687907853269984665640564039457584007913129639936) (w : World) :
    Calls Tryd.prog 60 #[.agg #[.int .u64 ((limb 0 (A) : Nat) : Int), .int .u64 ((limb 1 (A) : Nat) : Int), .int .u64 ((limb 2 (A) : Nat) : Int), .int .u64 ((limb 3 (A) : Nat) : Int)], .agg #[.int .u64 ((limb 0 (B) : Nat) : Int), .int .u64 ((limb 1 (B) : Nat) : Int), .int .u64 ((limb 2 (B) : Nat) : Int), .int .u64 ((limb 3 (B) : Nat) : Int)]] w fun e w' => e = .returned (.agg #[.int .u64 ((limb 0 (sub256 A B) : Nat) : Int), .int .u64 ((limb 1 (sub256 A B) : Nat) : Int), .int .u64 ((limb 2 (sub256 A B) : Nat) : Int), .int .u64 ((limb 3 (sub256 A B) : Nat) : Int)]) ∧ Below w.heap.size w w' := by
  obtain ⟨cs, cs0, hcs⟩ := sub_chain A B hA hB
  have HC := (show Hid _ from hcs); clear hcs
  obtain ⟨S, hS⟩ : ∃ S, S = sub256 A B := ⟨_, rfl⟩
  rw [← hS] at HC ⊢
  clear hS
  go_enter Tryd.func60, Tryd.ntmps60
  go_wp2
  go_loopw [6, 7] (fun c i wr => ∃ k : Nat, i = .int .i64 (k : Int) ∧ k ≤ 4 ∧ c = .int .u64 ((cs k : Nat) : Int) ∧ Below w.heap.size w wr ∧ Blk wr 24 w.heap.size (fun i => limb i A) ∧ Blk wr 24 (w.heap.size + 1) (fun i => limb i B) ∧ Blk wr 24 (w.heap.size + 1 + 1) (fun _ => 0) ∧ Blk wr 24 (w.heap.size + 1 + 1 + 1) (upTo S k)) (fun _ i _ => 4 - (intOf i).toNat)
  case atStart =>
    refine ⟨0, rfl, by decide, by rw [cs0]; rfl, ?_, (((Blk.newAt _ _ _ (fun i => limb i A) rfl).alloc _).alloc _).alloc _, ((Blk.newAt _ _ _ (fun i => limb i B) (by simp)).alloc _).alloc _, (Blk.newAt _ _ _ (fun _ => 0) (by simp)).alloc _, (Blk.newAt _ _ _ (fun _ => 0) (by simp)).congr (fun i _ => rfl)⟩
    repeat (first | with_reducible exact Below.refl _ _ | with_reducible refine Below.alloc ?_ (by first | omega | (simp; omega) | simp) _)
  case round =>
    obtain ⟨k, rfl, hk, rfl, hbr, bA, bB, b0, bO⟩ := hrel
    by_cases hlt : k < 4
    · have hki : (k : Int) < 4 := by omega
      have cA := bA.cell k hlt
      have cB := bB.cell k hlt
      have fO := bO.frozen
      have cO := bO.cell k hlt
      obtain ⟨l0, l1, hst⟩ := HC.out k hlt
      have la := limb_lt k A; have lb := limb_lt k B; have ls := limb_lt k S
      obtain ⟨a, ea⟩ : ∃ a, a = limb k A := ⟨_, rfl⟩
      obtain ⟨b, eb⟩ : ∃ b, b = limb k B := ⟨_, rfl⟩
      obtain ⟨s, es⟩ : ∃ s, s = limb k S := ⟨_, rfl⟩
      obtain ⟨c, ec⟩ : ∃ c, c = cs k := ⟨_, rfl⟩
      obtain ⟨d, ed⟩ : ∃ d, d = (a + 18446744073709551616 - b) % 18446744073709551616 := ⟨_, rfl⟩
      rw [← ea] at cA la hst
      rw [← eb] at cB lb hst
      rw [← es] at ls hst
      rw [← ec] at l0 hst ⊢
      have w1 := wrap_sub2 a b d la lb ed
      have w2 := wrap_sub2 d c s (by omega) (by omega) (by omega)
      have ES := (show Hid _ from es)
      by_cases hn : cs (k + 1) = 1
      · by_cases h1 : a < b
        · have h1' : (a : Int) < (b : Int) := by omega
          have HN := (show Hid _ from hn)
          clear hst ea eb es ec ed la lb ls hn h1 l0 l1
          go_wp2_with fail
          go_quiet (fail)
          go_wp2_with fail
          go_quiet (fail)
          go_wp2
          go_roundw
          case measure => simp [intOf]; omega
          case rel =>
            refine ⟨k + 1, by go_num, by omega, by rw [HN.out]; rfl, (below_drewN hbr _).setCell (by dsimp only; omega) _, (Blk.drewN bA _).other (by dsimp only; omega) _, (Blk.drewN bB _).other (by dsimp only; omega) _, (Blk.drewN b0 _).other (by dsimp only; omega) _, ((Blk.drewN bO _).set k hlt s).congr ?_⟩
            intro j _
            rw [upTo_step, ← ES.out]
        · have h1' : decide (a < b) = false := decide_eq_false (by omega)
          have h2' : decide (d < c) = true := decide_eq_true (by omega)
          have HN := (show Hid _ from hn)
          clear hst ea eb es ec ed la lb ls hn h1 l0 l1
          go_wp2_with fail
          go_quiet (fail)
          go_wp2_with fail
          go_quiet (fail)
          go_wp2
          go_roundw
          case measure => simp [intOf]; omega
          case rel =>
            refine ⟨k + 1, by go_num, by omega, by rw [HN.out]; rfl, (below_drewN hbr _).setCell (by dsimp only; omega) _, (Blk.drewN bA _).other (by dsimp only; omega) _, (Blk.drewN bB _).other (by dsimp only; omega) _, (Blk.drewN b0 _).other (by dsimp only; omega) _, ((Blk.drewN bO _).set k hlt s).congr ?_⟩
            intro j _
            rw [upTo_step, ← ES.out]
      · have h1' : decide (a < b) = false := decide_eq_false (by omega)
        have h2' : decide (d < c) = false := decide_eq_false (by omega)
        have HN := (show Hid (cs (k + 1) = 0) from (by show cs (k + 1) = 0; omega))
        clear hst ea eb es ec ed la lb ls hn l0 l1
        go_wp2_with fail
        go_quiet (fail)
        go_wp2_with fail
        go_quiet (fail)
        go_wp2
        go_roundw
        case measure => simp [intOf]; omega
        case rel =>
          refine ⟨k + 1, by go_num, by omega, by rw [HN.out]; rfl, (below_drewN hbr _).setCell (by dsimp only; omega) _, (Blk.drewN bA _).other (by dsimp only; omega) _, (Blk.drewN bB _).other (by dsimp only; omega) _, (Blk.drewN b0 _).other (by dsimp only; omega) _, ((Blk.drewN bO _).set k hlt s).congr ?_⟩
          intro j _
          rw [upTo_step, ← ES.out]
    · have hki : ¬ (k : Int) < 4 := by omega
      have hk4 : k = 4 := by omega
      subst hk4
      have c0 := b0.cell; have f0 := b0.frozen
      have bF := bO.congr (g := fun i => limb i S) (fun i hi => by unfold upTo; rw [if_pos hi])
      have cF := bF.cell
      go_wp2
      refine bodyPost_ret (v := .agg #[.int .u64 ((limb 0 (S) : Nat) : Int), .int .u64 ((limb 1 (S) : Nat) : Int), .int .u64 ((limb 2 (S) : Nat) : Int), .int .u64 ((limb 3 (S) : Nat) : Int)]) (by simp [results, Tryd.results60, go_sem, c0]) rfl ⟨rfl, ?_⟩
      repeat (first | with_reducible exact hbr | with_reducible refine Below.setCell ?_ (by first | omega | (simp; omega) | simp) _)

def topBit (A k : Nat) : Nat := if k = 0 then 0 else limb (k - 1) A / 2 ^ 63
theorem topBit_lt (A k : Nat) : topBit A k ≤ 1 := by
  unfold topBit; split
  · omega
  · have := limb_lt (k - 1) A; omega
theorem twice_word (A k : Nat) : (limb k A * 2 ^ 1 % 18446744073709551616) ||| topBit A k = limb k (A * 2 ^ 1) := by
  rw [limb_shift A 1 k (by decide)]
  unfold shW topBit
  rfl
theorem twice_over (A : Nat) (hA : A < 115792089237316195423570985008687907853269984665640564039457584007913129639936) : topBit A 4 = (if 115792089237316195423570985008687907853269984665640564039457584007913129639936 ≤ 2 * A then 1 else 0) := by
  have h := limbs_sum A hA
  have l0 := limb_lt 0 A; have l1 := limb_lt 1 A; have l2 := limb_lt 2 A; have l3 := limb_lt 3 A
  show limb 3 A / 2 ^ 63 = _
  split <;> omega
theorem or_bitN (a b : Nat) (hb : b ≤ 1) : bits BinOp.or IntKind.u64 (((a % 18446744073709551616 : Nat)) : Int) (b : Int) = (((a % 18446744073709551616) ||| b : Nat) : Int) :=
  bits_or_u64_nat _ _ (Nat.mod_lt _ (by decide)) (by omega)
def dbl256 (A : Nat) : Nat := 2 * A % 115792089237316195423570985008687907853269984665640564039457584007913129639936

set_option maxHeartbeats 4000000 in
set_option maxRecDepth 20000 in
/-- The reference's twice. -/
theorem refTwice_any (A : Nat) (hA : A < 115792089237316195423570985008687907853269984665640564039457584007913129639936) (w : World) :
    Calls Tryd.prog 58 #[.agg #[.int .u64 ((limb 0 (A) : Nat) : Int), .int .u64 ((limb 1 (A) : Nat) : Int), .int .u64 ((limb 2 (A) : Nat) : Int), .int .u64 ((limb 3 (A) : Nat) : Int)]] w fun e w' => e = .returned (.tuple #[.agg #[.int .u64 ((limb 0 (dbl256 A) : Nat) : Int), .int .u64 ((limb 1 (dbl256 A) : Nat) : Int), .int .u64 ((limb 2 (dbl256 A) : Nat) : Int), .int .u64 ((limb 3 (dbl256 A) : Nat) : Int)], .bool (decide (115792089237316195423570985008687907853269984665640564039457584007913129639936 ≤ 2 * A))]) ∧ Below w.heap.size w w' := by
  obtain ⟨S, hS⟩ : ∃ S, S = A * 2 ^ 1 := ⟨_, rfl⟩
  have HS := (show Hid _ from hS); clear hS
  go_enter Tryd.func58, Tryd.ntmps58
  go_wp2
  go_loopw [5, 6] (fun c i wr => ∃ k : Nat, i = .int .i64 (k : Int) ∧ k ≤ 4 ∧ c = .int .u64 ((topBit A k : Nat) : Int) ∧ Below w.heap.size w wr ∧ Blk wr 24 w.heap.size (fun i => limb i A) ∧ Blk wr 24 (w.heap.size + 1) (fun _ => 0) ∧ Blk wr 24 (w.heap.size + 1 + 1) (upTo S k)) (fun _ i _ => 4 - (intOf i).toNat)
  case atStart =>
    refine ⟨0, rfl, by decide, rfl, ?_, ((Blk.newAt _ _ _ (fun i => limb i A) rfl).alloc _).alloc _, (Blk.newAt _ _ _ (fun _ => 0) (by simp)).alloc _, (Blk.newAt _ _ _ (fun _ => 0) (by simp)).congr (fun i _ => rfl)⟩
    repeat (first | with_reducible exact Below.refl _ _ | with_reducible refine Below.alloc ?_ (by first | omega | (simp; omega) | simp) _)
  case round =>
    obtain ⟨k, rfl, hk, rfl, hbr, bA, b0, bO⟩ := hrel
    by_cases hlt : k < 4
    · have hki : (k : Int) < 4 := by omega
      have cA := bA.cell k hlt
      have fO := bO.frozen
      have cO := bO.cell k hlt
      have hw := twice_word A k
      rw [← HS.out] at hw
      have w1 : IntKind.u64.wrap (((limb k A : Nat) : Int) * 2) = ((limb k A * 2 ^ 1 % 18446744073709551616 : Nat) : Int) := wrap_shl (limb k A) 1
      have w2 := or_bitN (limb k A * 2 ^ 1) (topBit A k) (topBit_lt A k)
      rw [hw] at w2
      have hn : topBit A (k + 1) = limb k A / 2 ^ 63 := rfl
      obtain ⟨a, ea⟩ : ∃ a, a = limb k A := ⟨_, rfl⟩
      rw [← ea] at cA w1 w2 hn
      obtain ⟨x, ex⟩ : ∃ x, x = a * 2 ^ 1 % 18446744073709551616 := ⟨_, rfl⟩
      rw [← ex] at w1 w2
      obtain ⟨c, ec⟩ : ∃ c, c = topBit A k := ⟨_, rfl⟩
      rw [← ec] at w2 ⊢
      have HN := (show Hid _ from hn)
      clear hw ea ex ec hn
      go_wp2
      go_roundw
      case measure => simp [intOf]; omega
      case rel =>
        refine ⟨k + 1, by go_num, by omega, ?_, hbr.setCell (by dsimp only; omega) _, bA.other (by dsimp only; omega) _, b0.other (by dsimp only; omega) _, (bO.set k hlt (limb k S)).congr ?_⟩
        · rw [HN.out]; simp
        · intro j _; rw [upTo_step]
    · have hki : ¬ (k : Int) < 4 := by omega
      have hk4 : k = 4 := by omega
      subst hk4
      have c0 := b0.cell; have f0 := b0.frozen
      have bF := bO.congr (g := fun i => limb i (dbl256 A)) (fun i hi => by
        unfold upTo dbl256; rw [if_pos hi, ← limb_mod _ i hi, HS.out, Nat.pow_one, Nat.mul_comm])
      have cF := bF.cell
      have ho := twice_over A hA
      obtain ⟨c, ec⟩ : ∃ c, c = topBit A 4 := ⟨_, rfl⟩
      rw [← ec] at ho ⊢
      have hd : (((c : Nat) : Int) == 1) = decide (115792089237316195423570985008687907853269984665640564039457584007913129639936 ≤ 2 * A) := by
        rw [ho]; split
        · rename_i h; simp [h]
        · rename_i h; simp [h]
      have HD := (show Hid _ from hd)
      clear ho hd ec
      go_wp2
      refine bodyPost_ret (v := .tuple #[.agg #[.int .u64 ((limb 0 (dbl256 A) : Nat) : Int), .int .u64 ((limb 1 (dbl256 A) : Nat) : Int), .int .u64 ((limb 2 (dbl256 A) : Nat) : Int), .int .u64 ((limb 3 (dbl256 A) : Nat) : Int)], .bool ((c : Int) == 1)]) (by simp [results, Tryd.results58, go_sem, c0]) rfl ⟨by rw [HD.out], ?_⟩
      repeat (first | with_reducible exact hbr | with_reducible refine Below.setCell ?_ (by first | omega | (simp; omega) | simp) _)

theorem own_below {w w' : World} {base : Nat} {e : TypeId} {size : Nat} {v : Value} {n : Nat} {xs : List Value} (h : w.ownsRow base e size v n xs) (hb : Below w.heap.size w w') : w'.ownsRow base e size v n xs := by
  obtain ⟨hl, h⟩ := h
  refine ⟨hl, ?_⟩
  rcases h with h | ⟨g, c, cur, h1, h2, h3, h4⟩
  · exact Or.inl h
  · refine Or.inr ⟨g, c, cur, h1, h2, ?_, h4⟩
    have hg : g < w.heap.size := by
      rcases Nat.lt_or_ge g w.heap.size with hlt | hge
      · exact hlt
      · rw [Array.getElem?_eq_none hge] at h3; cases h3
    rw [hb.block g hg]; exact h3
theorem bl_join (A B : Nat) (hA : A < 115792089237316195423570985008687907853269984665640564039457584007913129639936) : bl A 256 ++ bl B 256 = bl (A + 115792089237316195423570985008687907853269984665640564039457584007913129639936 * B) 512 := by
  unfold bl
  rw [show (512 : Nat) = 256 + 256 from rfl, List.range_add, List.map_append, List.map_map]
  congr 1
  · apply List.map_congr_left
    intro i hi
    rw [bitN_low A B i (by simpa using hi)]
  · apply List.map_congr_left
    intro i hi
    show _ = Value.int .i64 ((bitN (A + 115792089237316195423570985008687907853269984665640564039457584007913129639936 * B) (256 + i) : Nat) : Int)
    rw [bitN_upper A B i hA]

set_option maxHeartbeats 1000000 in
/-- The reference's Rem by 0. -/
theorem refRem_zero (A B : Nat) (w : World) :
    Calls Tryd.prog 41 #[.agg #[.int .u64 ((limb 0 (A) : Nat) : Int), .int .u64 ((limb 1 (A) : Nat) : Int), .int .u64 ((limb 2 (A) : Nat) : Int), .int .u64 ((limb 3 (A) : Nat) : Int)], .agg #[.int .u64 ((limb 0 (B) : Nat) : Int), .int .u64 ((limb 1 (B) : Nat) : Int), .int .u64 ((limb 2 (B) : Nat) : Int), .int .u64 ((limb 3 (B) : Nat) : Int)], .agg #[.int .u64 ((limb 0 (0) : Nat) : Int), .int .u64 ((limb 1 (0) : Nat) : Int), .int .u64 ((limb 2 (0) : Nat) : Int), .int .u64 ((limb 3 (0) : Nat) : Int)]] w fun e w' => e = .returned (.tuple #[.agg #[.int .u64 ((limb 0 (0) : Nat) : Int), .int .u64 ((limb 1 (0) : Nat) : Int), .int .u64 ((limb 2 (0) : Nat) : Int), .int .u64 ((limb 3 (0) : Nat) : Int)], .int .i64 10]) ∧ Below w.heap.size w w' := by
  have hq : ∀ w : World, (binOp .eql 24 (.agg #[.int .u64 0, .int .u64 0, .int .u64 0, .int .u64 0]) (.agg #[.int .u64 0, .int .u64 0, .int .u64 0, .int .u64 0])).run Tryd.prog w = .ok (.bool true) w := fun w => eql4 0 0 0 0 0 0 0 0 w
  rw [limb_zero, limb_zero, limb_zero, limb_zero]
  go_enter Tryd.func41, Tryd.ntmps41
  go_wp2
  refine bodyPost_ret (v := .tuple #[.agg #[.int .u64 ((0 : Nat) : Int), .int .u64 ((0 : Nat) : Int), .int .u64 ((0 : Nat) : Int), .int .u64 ((0 : Nat) : Int)], .int .i64 10]) (by simp [results, Tryd.results41, go_sem]) rfl ⟨rfl, ?_⟩
  repeat (first | with_reducible exact Below.refl _ _ | with_reducible refine Below.setCell ?_ (by first | omega | (simp; omega) | simp) _ | with_reducible refine Below.alloc ?_ (by first | omega | (simp; omega) | simp) _)

/-- The remainder of what stands above the lowest k bits. -/
def highRem (N m k : Nat) : Nat := N / 2 ^ k % m
theorem highRem_end (N m : Nat) : highRem N m 0 = N % m := by unfold highRem; rw [Nat.pow_zero, Nat.div_one]
theorem highRem_top (N m k : Nat) (h : N < 115792089237316195423570985008687907853269984665640564039457584007913129639936 * 115792089237316195423570985008687907853269984665640564039457584007913129639936) (hk : k = 256 + 256) : highRem N m k = 0 := by
  obtain ⟨a, ha⟩ : ∃ a, a = 256 := ⟨_, rfl⟩
  have e : (2 : Nat) ^ k = 2 ^ a * 2 ^ a := by rw [← Nat.pow_add]; congr 1; omega
  unfold highRem
  rw [Nat.div_eq_of_lt (by rw [e, ha]; exact h), Nat.zero_mod]
def oneMore (r b : Nat) : Nat := (2 * r + b) % 115792089237316195423570985008687907853269984665640564039457584007913129639936
theorem highRem_step (N m k : Nat) (hm : m < 115792089237316195423570985008687907853269984665640564039457584007913129639936) (h0 : 0 < m) : highRem N m k = (if (decide (115792089237316195423570985008687907853269984665640564039457584007913129639936 ≤ 2 * highRem N m (k + 1)) || !below256 (oneMore (highRem N m (k + 1)) (bitN N k)) m) then sub256 (oneMore (highRem N m (k + 1)) (bitN N k)) m else oneMore (highRem N m (k + 1)) (bitN N k)) := by
  have h := rem_bit N m k
  have h1 := rem_once m (N / 2 ^ (k + 1) % m) (bitN N k) hm (Nat.mod_lt _ h0) (bitN_le N k)
  unfold highRem oneMore
  rw [← h]; exact h1
theorem oneMore_zero (r : Nat) : oneMore r 0 = dbl256 r := rfl
theorem oneMore_one (r i : Nat) : limb i (oneMore r 1) = if i = 0 then limb 0 (dbl256 r) ||| 1 else limb i (dbl256 r) := by
  have ht := Nat.div_add_mod r 57896044618658097711785492504343953926634992332820282019728792003956564819968
  have hl := Nat.mod_lt r (show 57896044618658097711785492504343953926634992332820282019728792003956564819968 > 0 by decide)
  obtain ⟨t, et⟩ : ∃ t, t = r % 57896044618658097711785492504343953926634992332820282019728792003956564819968 := ⟨_, rfl⟩
  obtain ⟨q, eq⟩ : ∃ q, q = r / 57896044618658097711785492504343953926634992332820282019728792003956564819968 := ⟨_, rfl⟩
  rw [← et, ← eq] at ht
  rw [← et] at hl
  have e1 : oneMore r 1 = 2 * t + 1 := by
    unfold oneMore
    rw [show 2 * r + 1 = (2 * t + 1) + 115792089237316195423570985008687907853269984665640564039457584007913129639936 * q from by omega, Nat.add_mul_mod_self_left, Nat.mod_eq_of_lt (by omega)]
  have e2 : dbl256 r = 2 * t := by
    unfold dbl256
    rw [show 2 * r = 2 * t + 115792089237316195423570985008687907853269984665640564039457584007913129639936 * q from by omega, Nat.add_mul_mod_self_left, Nat.mod_eq_of_lt (by omega)]
  rw [e1, e2]
  have ht2 := Nat.div_add_mod t 9223372036854775808
  have hl2 := Nat.mod_lt t (show 9223372036854775808 > 0 by decide)
  obtain ⟨u, eu⟩ : ∃ u, u = t % 9223372036854775808 := ⟨_, rfl⟩
  obtain ⟨p, ep⟩ : ∃ p, p = t / 9223372036854775808 := ⟨_, rfl⟩
  rw [← eu, ← ep] at ht2
  rw [← eu] at hl2
  have f1 : 2 * t = 2 * u + 18446744073709551616 * p := by omega
  have f2 : 2 * t + 1 = (2 * u + 1) + 18446744073709551616 * p := by omega
  by_cases hi : i = 0
  · subst hi
    rw [if_pos rfl, limb0, limb0, f2, f1, Nat.add_mul_mod_self_left, Nat.add_mul_mod_self_left, Nat.mod_eq_of_lt (by omega), Nat.mod_eq_of_lt (by omega)]
    have h4 := Nat.two_pow_add_eq_or_of_lt (i := 1) (b := 1) (by decide) u
    rw [Nat.pow_one] at h4
    exact h4
  · rw [if_neg hi]
    unfold limb
    obtain ⟨k, rfl⟩ : ∃ k, i = k + 1 := ⟨i - 1, by omega⟩
    rw [Nat.pow_succ', ← Nat.div_div_eq_div_mul, ← Nat.div_div_eq_div_mul, show (2 * t + 1) / 18446744073709551616 = 2 * t / 18446744073709551616 from by omega]

set_option maxHeartbeats 8000000 in
set_option maxRecDepth 20000 in
/-- The reference's Rem. -/
theorem refRem_any (A B m : Nat) (hA : A < 115792089237316195423570985008687907853269984665640564039457584007913129639936) (hB : B < 115792089237316195423570985008687907853269984665640564039457584007913129639936) (hm : m < 115792089237316195423570985008687907853269984665640564039457584007913129639936) (h0 : m ≠ 0) (w : World) :
    Calls Tryd.prog 41 #[.agg #[.int .u64 ((limb 0 (A) : Nat) : Int), .int .u64 ((limb 1 (A) : Nat) : Int), .int .u64 ((limb 2 (A) : Nat) : Int), .int .u64 ((limb 3 (A) : Nat) : Int)], .agg #[.int .u64 ((limb 0 (B) : Nat) : Int), .int .u64 ((limb 1 (B) : Nat) : Int), .int .u64 ((limb 2 (B) : Nat) : Int), .int .u64 ((limb 3 (B) : Nat) : Int)], .agg #[.int .u64 ((limb 0 (m) : Nat) : Int), .int .u64 ((limb 1 (m) : Nat) : Int), .int .u64 ((limb 2 (m) : Nat) : Int), .int .u64 ((limb 3 (m) : Nat) : Int)]] w fun e w' => e = .returned (.tuple #[.agg #[.int .u64 ((limb 0 ((A + 115792089237316195423570985008687907853269984665640564039457584007913129639936 * B) % m) : Nat) : Int), .int .u64 ((limb 1 ((A + 115792089237316195423570985008687907853269984665640564039457584007913129639936 * B) % m) : Nat) : Int), .int .u64 ((limb 2 ((A + 115792089237316195423570985008687907853269984665640564039457584007913129639936 * B) % m) : Nat) : Int), .int .u64 ((limb 3 ((A + 115792089237316195423570985008687907853269984665640564039457584007913129639936 * B) % m) : Nat) : Int)], .int .i64 0]) ∧ Below w.heap.size w w' := by
  obtain ⟨i0, hi, hz0, hz1, hz2⟩ := intInfo
  have HI := (show Hid _ from hi); have HZ := (show Hid _ from And.intro hz0 (And.intro hz1 hz2)); clear hi hz0 hz1 hz2
  obtain ⟨N, hN⟩ : ∃ N, N = A + 115792089237316195423570985008687907853269984665640564039457584007913129639936 * B := ⟨_, rfl⟩
  rw [← hN]
  have EN := (show Hid _ from hN); clear hN
  have hq := fun w => eql0 m hm w
  rw [show decide (m = 0) = false from by simp [h0]] at hq
  go_enter Tryd.func41, Tryd.ntmps41
  go_wp2_with fail
  obtain ⟨w0, hw0⟩ : ∃ w0 : World, w0 = ((((w.alloc (.cells #[.int .u64 ((limb 0 (A) : Nat) : Int), .int .u64 ((limb 1 (A) : Nat) : Int), .int .u64 ((limb 2 (A) : Nat) : Int), .int .u64 ((limb 3 (A) : Nat) : Int)] 24)).alloc (.cells #[.int .u64 ((limb 0 (B) : Nat) : Int), .int .u64 ((limb 1 (B) : Nat) : Int), .int .u64 ((limb 2 (B) : Nat) : Int), .int .u64 ((limb 3 (B) : Nat) : Int)] 24)).alloc (.cells #[.int .u64 ((limb 0 (m) : Nat) : Int), .int .u64 ((limb 1 (m) : Nat) : Int), .int .u64 ((limb 2 (m) : Nat) : Int), .int .u64 ((limb 3 (m) : Nat) : Int)] 24)).alloc (.cells #[.int .u64 0, .int .u64 0, .int .u64 0, .int .u64 0] 24)).alloc (.cells #[.int .u64 0, .int .u64 0, .int .u64 0, .int .u64 0] 24) := ⟨_, rfl⟩
  have bB : Blk w0 24 (w.heap.size + 1) (fun i => limb i B) := by rw [hw0]; exact (((Blk.newAt _ _ _ (fun i => limb i B) (by simp)).alloc _).alloc _).alloc _
  have bm : Blk w0 24 (w.heap.size + 1 + 1) (fun i => limb i m) := by rw [hw0]; exact ((Blk.newAt _ _ _ (fun i => limb i m) (by simp)).alloc _).alloc _
  have b3 : Blk w0 24 (w.heap.size + 1 + 1 + 1) (fun _ => 0) := by rw [hw0]; exact (Blk.newAt _ _ _ (fun _ => 0) (by simp)).alloc _
  have b4 : Blk w0 24 (w.heap.size + 1 + 1 + 1 + 1) (fun _ => 0) := by rw [hw0]; exact Blk.newAt _ _ _ (fun _ => 0) (by simp)
  have hb0 : Below w.heap.size w w0 := by
    rw [hw0]
    repeat (first | with_reducible exact Below.refl _ _ | with_reducible refine Below.alloc ?_ (by first | omega | (simp; omega) | simp) _)
  rw [← hw0]
  clear hw0 hq
  have hsz0 := b4.lt
  refine (bits_walk A _).mono ?_
  rintro e w1 ⟨va, rfl, hown1, hb1⟩
  have bB1 := bB.belowAll hb1; have bm1 := bm.belowAll hb1; have b31 := b3.belowAll hb1; have b41 := b4.belowAll hb1
  have hbw1 := bStep hb0 hb1
  clear bB bm b3 b4 hb0
  have cB1 := bB1.cell
  go_wp2_with fail
  refine (bits_any B _).mono ?_
  rintro e w2 ⟨gb, cb, rfl, hcb, hgb0, hgb, hcB, hb2⟩
  have hown2 := own_below hown1 hb2
  have bm2 := bm1.belowAll hb2; have b32 := b31.belowAll hb2; have b42 := b41.belowAll hb2
  have hbw2 := bStep hbw1 hb2
  have HB := (show Hid _ from hcB)
  have HO := (show Hid _ from hown2)
  clear bB1 bm1 b31 b41 hown1 hown2 hcB cB1 hbw1
  go_wp2_with (first
    | (at_builtin; refine wpList_append_own _ rfl _ _ 78 rfl (w0.heap.size + 1) 3 i0 (.int .i64 0) 1 8 Tryd.underlying78 HI.out HZ.out.1 HZ.out.2.1 HZ.out.2.2 rfl (by decide) _ 256 (bl A 256) rfl HO.out ⟨gb, 0, none⟩ 256 cb (bl B 256) rfl ?c0 ?c1 ?c2 ?c3 ?c4 ?c5 ?_)
    | go_in)
  case c0 => simp [bl]
  case c1 =>
    intro j u hj
    have hj2 : j < 256 := by
      rcases Nat.lt_or_ge j 256 with h | h
      · exact h
      · rw [List.getElem?_eq_none (by simp [bl]; exact h)] at hj; cases hj
    rw [bl_get _ _ _ hj2] at hj
    cases hj
    have ha : (⟨gb, 0, none⟩ : Addr).add j = ⟨gb, j, none⟩ := by
      unfold Addr.add
      by_cases h : j = 0
      · subst h; rfl
      · simp [h]
    rw [ha]
    exact HB.out j hj2
  case c2 =>
    intro u hu
    simp only [bl, List.mem_map] at hu
    obtain ⟨i, _, rfl⟩ := hu
    rfl
  case c3 => decide
  case c4 => decide
  case c5 => exact Nat.le_trans (Nat.succ_le_of_lt (by have := hb1.size; have := hb2.size; have := hgb; omega)) (Nat.le_refl _)
  rw [bl_join A B hA]
  rw [← EN.out]
  have hN2 : N < 115792089237316195423570985008687907853269984665640564039457584007913129639936 * 115792089237316195423570985008687907853269984665640564039457584007913129639936 := by rw [EN.out]; omega
  intro v' w3 hown3 hgrow _
  obtain ⟨g, cg, rfl, h1, h2, h3, h4⟩ := own_cells hown3 (by decide)
  have hsz2 : w0.heap.size + 1 ≤ w2.heap.size := by have := hb1.size; have := hb2.size; have := hgb0; omega
  have hBe : Below (w0.heap.size + 1) w2 w3 := (Below.refl _ w2).grown hgrow hsz2 (fun j hj => own_block_ge HO.out hj)
  have hcN : ∀ i, i < 512 → w3.cell? ⟨g, i, none⟩ = some (.int .i64 ((bitN N i : Nat) : Int)) := by
    intro i hi; rw [h4 i hi, bl_get _ _ _ hi]
  have HN := (show Hid _ from hcN)
  have bm3 := bm2.below hBe (by omega); have b33 := b32.below hBe (by omega); have b43 := b42.below hBe (by omega)
  have hbw3 : Below w.heap.size w w3 := hbw2.trans (hBe.mono (by omega))
  clear HB HO hown3 hgrow h1 h2 h4 hcN hBe bm2 b32 b42 hbw2 hgb0 hcb hb1 hb2
  have c4 := b43.cell
  have hz3 := b43.lt
  go_wp2
  go_loopw [11] (fun i wr => ∃ k : Nat, i = .int .i64 ((k : Int) - 1) ∧ k ≤ 512 ∧ Below w3.heap.size w3 wr ∧ Blk wr 24 w3.heap.size (fun i => limb i (highRem N m k))) (fun i _ => (intOf i + 1).toNat)
  case atStart =>
    refine ⟨512, rfl, by decide, (Below.refl _ _).alloc (Nat.le_refl _) _, ?_⟩
    rw [highRem_top N m 512 hN2 rfl]
    exact (Blk.new w3 _ (fun _ => 0)).congr (fun i _ => limb_zero i)
  case round =>
    obtain ⟨k, rfl, hk, hbr, bR⟩ := hrel
    have cR := bR.cell; have lR := bR.lt
    by_cases hk0 : k = 0
    · subst hk0
      rw [highRem_end] at bR cR
      have b3r := b33.belowAll hbr
      have c3 := b3r.cell; have f3 := b3r.frozen
      go_wp2
      refine bodyPost_ret (v := .tuple #[.agg #[.int .u64 ((limb 0 (N % m) : Nat) : Int), .int .u64 ((limb 1 (N % m) : Nat) : Int), .int .u64 ((limb 2 (N % m) : Nat) : Int), .int .u64 ((limb 3 (N % m) : Nat) : Int)], .int .i64 0]) (by simp [results, Tryd.results41, go_sem, c3]) rfl ⟨rfl, ?_⟩
      repeat (first | with_reducible exact bStep hbw3 hbr | with_reducible refine Below.setCell ?_ (by first | omega | (simp; omega) | simp) _)
    · obtain ⟨j, rfl⟩ : ∃ j, k = j + 1 := ⟨k - 1, by omega⟩
      have e1 : ((j + 1 : Nat) : Int) - 1 = (j : Int) := by omega
      rw [e1]
      have hm0 : (0 : Int) ≤ (j : Int) := by omega
      have hmn : (j : Int) < 512 := by omega
      have hrm : highRem N m (j + 1) < m := Nat.mod_lt _ (by omega)
      have hrb := highRem_step N m j hm (by omega)
      obtain ⟨r, er⟩ : ∃ r, r = highRem N m (j + 1) := ⟨_, rfl⟩
      rw [← er] at cR hrm hrb
      clear e1 er
      go_wp2_with fail
      refine (refTwice_any r (by omega) _).mono ?_
      rintro e wt ⟨rfl, hbt⟩
      have bRt := bR.belowAll hbt
      have bmt := (bm3.belowAll hbr).belowAll hbt
      have cG : wt.cell? ⟨g, j, none⟩ = some (.int .i64 ((bitN N j : Nat) : Int)) := by
        rw [hbt.cell (p := ⟨g, j, none⟩) (Nat.lt_of_lt_of_le h3 hbr.size), hbr.cell (p := ⟨g, j, none⟩) h3]; exact HN.out j (by omega)
      have hbrt : Below w3.heap.size w3 wt := bStep hbr hbt
      clear hbr hbt cR
      have lmt := bmt.lt
      have lG : g < wt.heap.size := Nat.lt_of_lt_of_le h3 hbrt.size
      have cm := bmt.cell
      obtain ⟨hA1, hG1⟩ := acell (w := wt) (n := wt.heap.size) (Nat.le_refl _)
      have lt0 : oneMore r (bitN N j) < 115792089237316195423570985008687907853269984665640564039457584007913129639936 := Nat.mod_lt _ (by decide)
      have hne : w3.heap.size ≠ wt.heap.size := by have := bRt.lt; omega
      have hlR : w3.heap.size ≤ wt.heap.size := hbrt.size
      by_cases hbit : bitN N j = 1
      · rw [hbit] at cG hrb lt0
        have hor : bits BinOp.or IntKind.u64 ((limb 0 (dbl256 r) : Nat) : Int) 1 = ((limb 0 (oneMore r 1) : Nat) : Int) := by
          rw [oneMore_one, if_pos rfl]
          exact bits_or_u64_nat _ 1 (limb_lt _ _) (by decide)
        have e1 : limb 1 (dbl256 r) = limb 1 (oneMore r 1) := by rw [oneMore_one]; rfl
        have e2 : limb 2 (dbl256 r) = limb 2 (oneMore r 1) := by rw [oneMore_one]; rfl
        have e3 : limb 3 (dbl256 r) = limb 3 (oneMore r 1) := by rw [oneMore_one]; rfl
        clear hbit
        by_cases hov : 115792089237316195423570985008687907853269984665640564039457584007913129639936 ≤ 2 * r
        · have HR : Hid (highRem N m j = sub256 (oneMore r 1) m) := by
            show highRem N m j = _
            rw [hrb]; simp [hov]
          clear hrb
          go_wp2_with fail
          have bD0 := Blk.new wt 24 (fun i => limb i (oneMore r 1))
          have bR0 := bRt.alloc (.cells #[.int .u64 ((limb 0 (oneMore r 1) : Nat) : Int), .int .u64 ((limb 1 (oneMore r 1) : Nat) : Int), .int .u64 ((limb 2 (oneMore r 1) : Nat) : Int), .int .u64 ((limb 3 (oneMore r 1) : Nat) : Int)] 24)
          have hbw0 : Below w3.heap.size w3 (wt.alloc (.cells #[.int .u64 ((limb 0 (oneMore r 1) : Nat) : Int), .int .u64 ((limb 1 (oneMore r 1) : Nat) : Int), .int .u64 ((limb 2 (oneMore r 1) : Nat) : Int), .int .u64 ((limb 3 (oneMore r 1) : Nat) : Int)] 24)) := bAlloc hbrt _
          refine (refMinus_any (oneMore r 1) m lt0 hm _).mono ?_
          rintro e wm ⟨rfl, hbm⟩
          have bDm := bD0.belowAll hbm; have bRm := bR0.belowAll hbm
          have hbwm : Below w3.heap.size w3 wm := bStep hbw0 hbm
          have cD := bDm.cell; have fD := bDm.frozen; have fR := bRm.frozen; have cR := bRm.cell
          have lRm := bRm.lt; have lDm := bDm.lt
          clear hbm bD0 bR0 hbw0 hA1 hG1 cm
          go_wp2
          go_roundw
          case measure => simp [intOf]
          case rel =>
            refine ⟨j, rfl, by omega, ?_, ?_⟩
            · exact bSet4 (bSet4 hbwm hlR _ _ _ _) (Nat.le_refl _) _ _ _ _
            · rw [HR.out]
              exact (bRm.other4 hne _ _ _ _).set4 (fun i => limb i (sub256 (oneMore r 1) m))
        · by_cases hbl : below256 (oneMore r 1) m = true
          · have HR : Hid (highRem N m j = oneMore r 1) := by
              show highRem N m j = _
              rw [hrb]; simp [hov, hbl]
            clear hrb
            go_wp2_with fail
            have bD0 := Blk.new wt 24 (fun i => limb i (oneMore r 1))
            have bR0 := bRt.alloc (.cells #[.int .u64 ((limb 0 (oneMore r 1) : Nat) : Int), .int .u64 ((limb 1 (oneMore r 1) : Nat) : Int), .int .u64 ((limb 2 (oneMore r 1) : Nat) : Int), .int .u64 ((limb 3 (oneMore r 1) : Nat) : Int)] 24)
            have hbw0 : Below w3.heap.size w3 (wt.alloc (.cells #[.int .u64 ((limb 0 (oneMore r 1) : Nat) : Int), .int .u64 ((limb 1 (oneMore r 1) : Nat) : Int), .int .u64 ((limb 2 (oneMore r 1) : Nat) : Int), .int .u64 ((limb 3 (oneMore r 1) : Nat) : Int)] 24)) := bAlloc hbrt _
            refine (refBelow_any (oneMore r 1) m lt0 hm _).mono ?_
            rintro e wm ⟨rfl, hbm⟩
            rw [hbl]
            have bDm := bD0.belowAll hbm; have bRm := bR0.belowAll hbm
            have hbwm : Below w3.heap.size w3 wm := bStep hbw0 hbm
            have cD := bDm.cell; have fD := bDm.frozen; have fR := bRm.frozen; have cR := bRm.cell
            have lRm := bRm.lt; have lDm := bDm.lt
            clear hbm bD0 bR0 hbw0 hA1 hG1 cm
            go_wp2
            go_roundw
            case measure => simp [intOf]
            case rel =>
              refine ⟨j, rfl, by omega, ?_, ?_⟩
              · exact bSet4 hbwm (Nat.le_refl _) _ _ _ _
              · rw [HR.out]
                exact bRm.set4 (fun i => limb i (oneMore r 1))
          · have hbf : below256 (oneMore r 1) m = false := by simpa using hbl
            have HR : Hid (highRem N m j = sub256 (oneMore r 1) m) := by
              show highRem N m j = _
              rw [hrb]; simp [hov, hbf]
            clear hrb hbl
            go_wp2_with fail
            have bD0 := Blk.new wt 24 (fun i => limb i (oneMore r 1))
            have bR0 := bRt.alloc (.cells #[.int .u64 ((limb 0 (oneMore r 1) : Nat) : Int), .int .u64 ((limb 1 (oneMore r 1) : Nat) : Int), .int .u64 ((limb 2 (oneMore r 1) : Nat) : Int), .int .u64 ((limb 3 (oneMore r 1) : Nat) : Int)] 24)
            have bm0 := bmt.alloc (.cells #[.int .u64 ((limb 0 (oneMore r 1) : Nat) : Int), .int .u64 ((limb 1 (oneMore r 1) : Nat) : Int), .int .u64 ((limb 2 (oneMore r 1) : Nat) : Int), .int .u64 ((limb 3 (oneMore r 1) : Nat) : Int)] 24)
            have hbw0 : Below w3.heap.size w3 (wt.alloc (.cells #[.int .u64 ((limb 0 (oneMore r 1) : Nat) : Int), .int .u64 ((limb 1 (oneMore r 1) : Nat) : Int), .int .u64 ((limb 2 (oneMore r 1) : Nat) : Int), .int .u64 ((limb 3 (oneMore r 1) : Nat) : Int)] 24)) := bAlloc hbrt _
            refine (refBelow_any (oneMore r 1) m lt0 hm _).mono ?_
            rintro e wb ⟨rfl, hbb⟩
            rw [hbf]
            have bD1 := bD0.belowAll hbb; have bR1 := bR0.belowAll hbb; have bm1 := bm0.belowAll hbb
            have hbw1 : Below w3.heap.size w3 wb := bStep hbw0 hbb
            clear hbb bD0 bR0 bm0 hbw0 hA1 hG1 cm
            have bD0 := bD1; have bR0 := bR1; have hbw0 := hbw1
            have cD1 := bD1.cell; have cm1 := bm1.cell
            clear bD1 bR1 hbw1
            go_wp2_with fail
            refine (refMinus_any (oneMore r 1) m lt0 hm _).mono ?_
            rintro e wm ⟨rfl, hbm⟩
            have bDm := bD0.belowAll hbm; have bRm := bR0.belowAll hbm
            have hbwm : Below w3.heap.size w3 wm := bStep hbw0 hbm
            have cD := bDm.cell; have fD := bDm.frozen; have fR := bRm.frozen; have cR := bRm.cell
            have lRm := bRm.lt; have lDm := bDm.lt
            clear hbm bD0 bR0 hbw0 cD1 cm1
            go_wp2
            go_roundw
            case measure => simp [intOf]
            case rel =>
              refine ⟨j, rfl, by omega, ?_, ?_⟩
              · exact bSet4 (bSet4 hbwm hlR _ _ _ _) (Nat.le_refl _) _ _ _ _
              · rw [HR.out]
                exact (bRm.other4 hne _ _ _ _).set4 (fun i => limb i (sub256 (oneMore r 1) m))
      · have hb0 : (((bitN N j : Nat) : Int) == 1) = false := by rw [beq_eq_false_iff_ne]; omega
        have hb1 : bitN N j = 0 := by have := bitN_le N j; omega
        rw [hb1, oneMore_zero] at hrb lt0
        clear hb1 hbit
        by_cases hov : 115792089237316195423570985008687907853269984665640564039457584007913129639936 ≤ 2 * r
        · have HR : Hid (highRem N m j = sub256 (dbl256 r) m) := by
            show highRem N m j = _
            rw [hrb]; simp [hov]
          clear hrb
          go_wp2_with fail
          have bD0 := Blk.new wt 24 (fun i => limb i (dbl256 r))
          have bR0 := bRt.alloc (.cells #[.int .u64 ((limb 0 (dbl256 r) : Nat) : Int), .int .u64 ((limb 1 (dbl256 r) : Nat) : Int), .int .u64 ((limb 2 (dbl256 r) : Nat) : Int), .int .u64 ((limb 3 (dbl256 r) : Nat) : Int)] 24)
          have hbw0 : Below w3.heap.size w3 (wt.alloc (.cells #[.int .u64 ((limb 0 (dbl256 r) : Nat) : Int), .int .u64 ((limb 1 (dbl256 r) : Nat) : Int), .int .u64 ((limb 2 (dbl256 r) : Nat) : Int), .int .u64 ((limb 3 (dbl256 r) : Nat) : Int)] 24)) := bAlloc hbrt _
          refine (refMinus_any (dbl256 r) m lt0 hm _).mono ?_
          rintro e wm ⟨rfl, hbm⟩
          have bDm := bD0.belowAll hbm; have bRm := bR0.belowAll hbm
          have hbwm : Below w3.heap.size w3 wm := bStep hbw0 hbm
          have cD := bDm.cell; have fD := bDm.frozen; have fR := bRm.frozen; have cR := bRm.cell
          have lRm := bRm.lt; have lDm := bDm.lt
          clear hbm bD0 bR0 hbw0 hA1 hG1 cm
          go_wp2
          go_roundw
          case measure => simp [intOf]
          case rel =>
            refine ⟨j, rfl, by omega, ?_, ?_⟩
            · exact bSet4 (bSet4 hbwm hlR _ _ _ _) (Nat.le_refl _) _ _ _ _
            · rw [HR.out]
              exact (bRm.other4 hne _ _ _ _).set4 (fun i => limb i (sub256 (dbl256 r) m))
        · by_cases hbl : below256 (dbl256 r) m = true
          · have HR : Hid (highRem N m j = dbl256 r) := by
              show highRem N m j = _
              rw [hrb]; simp [hov, hbl]
            clear hrb
            go_wp2_with fail
            have bD0 := Blk.new wt 24 (fun i => limb i (dbl256 r))
            have bR0 := bRt.alloc (.cells #[.int .u64 ((limb 0 (dbl256 r) : Nat) : Int), .int .u64 ((limb 1 (dbl256 r) : Nat) : Int), .int .u64 ((limb 2 (dbl256 r) : Nat) : Int), .int .u64 ((limb 3 (dbl256 r) : Nat) : Int)] 24)
            have hbw0 : Below w3.heap.size w3 (wt.alloc (.cells #[.int .u64 ((limb 0 (dbl256 r) : Nat) : Int), .int .u64 ((limb 1 (dbl256 r) : Nat) : Int), .int .u64 ((limb 2 (dbl256 r) : Nat) : Int), .int .u64 ((limb 3 (dbl256 r) : Nat) : Int)] 24)) := bAlloc hbrt _
            refine (refBelow_any (dbl256 r) m lt0 hm _).mono ?_
            rintro e wm ⟨rfl, hbm⟩
            rw [hbl]
            have bDm := bD0.belowAll hbm; have bRm := bR0.belowAll hbm
            have hbwm : Below w3.heap.size w3 wm := bStep hbw0 hbm
            have cD := bDm.cell; have fD := bDm.frozen; have fR := bRm.frozen; have cR := bRm.cell
            have lRm := bRm.lt; have lDm := bDm.lt
            clear hbm bD0 bR0 hbw0 hA1 hG1 cm
            go_wp2
            go_roundw
            case measure => simp [intOf]
            case rel =>
              refine ⟨j, rfl, by omega, ?_, ?_⟩
              · exact bSet4 hbwm (Nat.le_refl _) _ _ _ _
              · rw [HR.out]
                exact bRm.set4 (fun i => limb i (dbl256 r))
          · have hbf : below256 (dbl256 r) m = false := by simpa using hbl
            have HR : Hid (highRem N m j = sub256 (dbl256 r) m) := by
              show highRem N m j = _
              rw [hrb]; simp [hov, hbf]
            clear hrb hbl
            go_wp2_with fail
            have bD0 := Blk.new wt 24 (fun i => limb i (dbl256 r))
            have bR0 := bRt.alloc (.cells #[.int .u64 ((limb 0 (dbl256 r) : Nat) : Int), .int .u64 ((limb 1 (dbl256 r) : Nat) : Int), .int .u64 ((limb 2 (dbl256 r) : Nat) : Int), .int .u64 ((limb 3 (dbl256 r) : Nat) : Int)] 24)
            have bm0 := bmt.alloc (.cells #[.int .u64 ((limb 0 (dbl256 r) : Nat) : Int), .int .u64 ((limb 1 (dbl256 r) : Nat) : Int), .int .u64 ((limb 2 (dbl256 r) : Nat) : Int), .int .u64 ((limb 3 (dbl256 r) : Nat) : Int)] 24)
            have hbw0 : Below w3.heap.size w3 (wt.alloc (.cells #[.int .u64 ((limb 0 (dbl256 r) : Nat) : Int), .int .u64 ((limb 1 (dbl256 r) : Nat) : Int), .int .u64 ((limb 2 (dbl256 r) : Nat) : Int), .int .u64 ((limb 3 (dbl256 r) : Nat) : Int)] 24)) := bAlloc hbrt _
            refine (refBelow_any (dbl256 r) m lt0 hm _).mono ?_
            rintro e wb ⟨rfl, hbb⟩
            rw [hbf]
            have bD1 := bD0.belowAll hbb; have bR1 := bR0.belowAll hbb; have bm1 := bm0.belowAll hbb
            have hbw1 : Below w3.heap.size w3 wb := bStep hbw0 hbb
            clear hbb bD0 bR0 bm0 hbw0 hA1 hG1 cm
            have bD0 := bD1; have bR0 := bR1; have hbw0 := hbw1
            have cD1 := bD1.cell; have cm1 := bm1.cell
            clear bD1 bR1 hbw1
            go_wp2_with fail
            refine (refMinus_any (dbl256 r) m lt0 hm _).mono ?_
            rintro e wm ⟨rfl, hbm⟩
            have bDm := bD0.belowAll hbm; have bRm := bR0.belowAll hbm
            have hbwm : Below w3.heap.size w3 wm := bStep hbw0 hbm
            have cD := bDm.cell; have fD := bDm.frozen; have fR := bRm.frozen; have cR := bRm.cell
            have lRm := bRm.lt; have lDm := bDm.lt
            clear hbm bD0 bR0 hbw0 cD1 cm1
            go_wp2
            go_roundw
            case measure => simp [intOf]
            case rel =>
              refine ⟨j, rfl, by omega, ?_, ?_⟩
              · exact bSet4 (bSet4 hbwm hlR _ _ _ _) (Nat.le_refl _) _ _ _ _
              · rw [HR.out]
                exact (bRm.other4 hne _ _ _ _).set4 (fun i => limb i (sub256 (dbl256 r) m))

end Go.Proofs.YtlndeghggdpmaacDoor
