/- The rounds of blake; what blake.inOrder and blake.compress do. -/
import Derived.Test.YtolaofoffakddaaDoorB3
namespace Go.Proofs.YtolaofoffakddaaDoor
open Go.RowKit

def sigRows : List (List Nat) := [[0, 1, 2, 3, 4, 5, 6, 7, 8, 9, 10, 11, 12, 13, 14, 15], [14, 10, 4, 8, 9, 15, 13, 6, 1, 12, 0, 2, 11, 7, 5, 3], [11, 8, 12, 0, 5, 2, 15, 13, 10, 14, 3, 6, 7, 1, 9, 4], [7, 9, 3, 1, 13, 12, 11, 14, 2, 6, 5, 10, 4, 0, 15, 8], [9, 0, 5, 7, 2, 4, 10, 15, 14, 1, 11, 12, 6, 8, 3, 13], [2, 12, 6, 10, 0, 11, 8, 3, 4, 13, 7, 5, 15, 14, 1, 9], [12, 5, 1, 15, 14, 13, 4, 10, 0, 7, 6, 3, 9, 2, 8, 11], [13, 11, 7, 14, 12, 1, 3, 9, 5, 0, 15, 4, 8, 6, 2, 10], [6, 15, 14, 9, 11, 3, 0, 8, 12, 2, 13, 7, 1, 4, 10, 5], [10, 2, 8, 4, 7, 6, 1, 5, 15, 11, 9, 14, 3, 12, 13, 0]]
/-- The order in which round r takes a block's words. -/
def sig (r i : Nat) : Nat := (sigRows.getD (r % 10) []).getD i 0
theorem sig_lt (r i : Nat) : sig r i < 16 := by
  have h1 : ∀ l ∈ sigRows, ∀ x ∈ l, x < 16 := by decide
  unfold sig
  rw [List.getD_eq_getElem?_getD, List.getD_eq_getElem?_getD]
  cases e : sigRows[r % 10]? with
  | none => simp
  | some l =>
    rw [Option.getD_some]
    cases e2 : l[i]? with
    | none => simp
    | some x =>
      rw [Option.getD_some]
      exact h1 l (List.mem_of_getElem? e) x (List.mem_of_getElem? e2)
def ivL : List Nat := [7640891576956012808, 13503953896175478587, 4354685564936845355, 11912009170470909681, 5840696475078001361, 11170449401992604703, 2270897969802886507, 6620516959819538809]
/-- The first words. -/
def ivW (i : Nat) : Nat := ivL.getD i 0
theorem ivW_lt (i : Nat) : ivW i < 18446744073709551616 := by
  have h1 : ∀ x ∈ ivL, x < 18446744073709551616 := by decide
  unfold ivW
  rw [List.getD_eq_getElem?_getD]
  cases e : ivL[i]? with
  | none => simp
  | some x =>
    rw [Option.getD_some]
    exact h1 x (List.mem_of_getElem? e)
/-- What the package's variables hold. -/
def GlobB (w : World) : Prop := 2 ≤ w.heap.size ∧ (∀ i, i < 8 → w.cell? ⟨0, i, none⟩ = some (.int .u64 ((ivW i : Nat) : Int))) ∧ (∀ r i, r < 10 → i < 16 → w.cell? ⟨1, r * 16 + i, none⟩ = some (.int .u8 ((sig r i : Nat) : Int)))
theorem GlobB.below {w w' : World} (h : GlobB w) (hb : Below w.heap.size w w') : GlobB w' := by
  obtain ⟨h1, h2, h3⟩ := h
  refine ⟨Nat.le_trans h1 hb.size, fun i hi => ?_, fun r i hr hi => ?_⟩
  · rw [hb.cell (p := ⟨0, i, none⟩) (by dsimp only; omega)]; exact h2 i hi
  · rw [hb.cell (p := ⟨1, r * 16 + i, none⟩) (by dsimp only; omega)]; exact h3 r i hr hi

/-- A block's words in the order of round r. -/
def ord (m : Nat → Nat) (r i : Nat) : Nat := m (sig r i)

set_option maxHeartbeats 4000000 in
set_option maxRecDepth 20000 in
/-- blake.inOrder. -/
theorem inOrder_any (m : Nat → Nat) (r : Nat) (hr : r < 12) (w : World) (hg : GlobB w) :
    Calls Tryd.prog 23 #[.agg #[.int .u64 ((m 0 : Nat) : Int), .int .u64 ((m 1 : Nat) : Int), .int .u64 ((m 2 : Nat) : Int), .int .u64 ((m 3 : Nat) : Int), .int .u64 ((m 4 : Nat) : Int), .int .u64 ((m 5 : Nat) : Int), .int .u64 ((m 6 : Nat) : Int), .int .u64 ((m 7 : Nat) : Int), .int .u64 ((m 8 : Nat) : Int), .int .u64 ((m 9 : Nat) : Int), .int .u64 ((m 10 : Nat) : Int), .int .u64 ((m 11 : Nat) : Int), .int .u64 ((m 12 : Nat) : Int), .int .u64 ((m 13 : Nat) : Int), .int .u64 ((m 14 : Nat) : Int), .int .u64 ((m 15 : Nat) : Int)], .int .i64 (r : Int)] w fun e w' => e = .returned (.agg #[.int .u64 ((ord m r 0 : Nat) : Int), .int .u64 ((ord m r 1 : Nat) : Int), .int .u64 ((ord m r 2 : Nat) : Int), .int .u64 ((ord m r 3 : Nat) : Int), .int .u64 ((ord m r 4 : Nat) : Int), .int .u64 ((ord m r 5 : Nat) : Int), .int .u64 ((ord m r 6 : Nat) : Int), .int .u64 ((ord m r 7 : Nat) : Int), .int .u64 ((ord m r 8 : Nat) : Int), .int .u64 ((ord m r 9 : Nat) : Int), .int .u64 ((ord m r 10 : Nat) : Int), .int .u64 ((ord m r 11 : Nat) : Int), .int .u64 ((ord m r 12 : Nat) : Int), .int .u64 ((ord m r 13 : Nat) : Int), .int .u64 ((ord m r 14 : Nat) : Int), .int .u64 ((ord m r 15 : Nat) : Int)]) ∧ Below w.heap.size w w' := by
  have HG : Hid (GlobB w) := hg
  have hr0 : (0 : Int) ≤ (r : Int) := by omega
  obtain ⟨q, eq⟩ : ∃ q, q = r % 10 := ⟨_, rfl⟩
  have hq : (r : Int) % 10 = (q : Int) := by omega
  have hq2 : (r : Int).tmod 10 = (q : Int) := by rw [Int.tmod_eq_emod_of_nonneg hr0]; exact hq
  have hq10 : q < 10 := by omega
  have HSG : Hid (∀ i, ord m r i = m (sig q i)) := fun i => by unfold ord sig; rw [← eq, show q % 10 = q from by omega]
  clear eq hr hg
  go_enter Tryd.func23, Tryd.ntmps23
  go_upto_region 2 with fail
  obtain ⟨w0, hw0⟩ : ∃ w0 : World, w0 = ((w.alloc (.cells #[.int .u64 ((m 0 : Nat) : Int), .int .u64 ((m 1 : Nat) : Int), .int .u64 ((m 2 : Nat) : Int), .int .u64 ((m 3 : Nat) : Int), .int .u64 ((m 4 : Nat) : Int), .int .u64 ((m 5 : Nat) : Int), .int .u64 ((m 6 : Nat) : Int), .int .u64 ((m 7 : Nat) : Int), .int .u64 ((m 8 : Nat) : Int), .int .u64 ((m 9 : Nat) : Int), .int .u64 ((m 10 : Nat) : Int), .int .u64 ((m 11 : Nat) : Int), .int .u64 ((m 12 : Nat) : Int), .int .u64 ((m 13 : Nat) : Int), .int .u64 ((m 14 : Nat) : Int), .int .u64 ((m 15 : Nat) : Int)] 51)).alloc (.cells #[.int .u64 0, .int .u64 0, .int .u64 0, .int .u64 0, .int .u64 0, .int .u64 0, .int .u64 0, .int .u64 0, .int .u64 0, .int .u64 0, .int .u64 0, .int .u64 0, .int .u64 0, .int .u64 0, .int .u64 0, .int .u64 0] 51)).alloc (.cells #[.int .u64 0, .int .u64 0, .int .u64 0, .int .u64 0, .int .u64 0, .int .u64 0, .int .u64 0, .int .u64 0, .int .u64 0, .int .u64 0, .int .u64 0, .int .u64 0, .int .u64 0, .int .u64 0, .int .u64 0, .int .u64 0] 51) := ⟨_, rfl⟩
  have bA0 : BlkN w0 51 w.heap.size 16 m := by rw [hw0]; exact ((BlkN.newAt _ _ _ 16 m _ rfl rfl (case16 rfl rfl rfl rfl rfl rfl rfl rfl rfl rfl rfl rfl rfl rfl rfl rfl)).alloc _).alloc _
  have bR0 : BlkN w0 51 (w.heap.size + 1) 16 (fun _ => 0) := by rw [hw0]; exact (BlkN.newAt _ _ _ 16 (fun _ => 0) _ (by simp) rfl (case16 rfl rfl rfl rfl rfl rfl rfl rfl rfl rfl rfl rfl rfl rfl rfl rfl)).alloc _
  have bM0 : BlkN w0 51 (w.heap.size + 1 + 1) 16 (fun _ => 0) := by rw [hw0]; exact BlkN.newAt _ _ _ 16 (fun _ => 0) _ (by simp) rfl (case16 rfl rfl rfl rfl rfl rfl rfl rfl rfl rfl rfl rfl rfl rfl rfl rfl)
  have hb0 : Below w.heap.size w w0 := by rw [hw0]; exact bAlloc (bAlloc ((Below.refl _ _).alloc (Nat.le_refl _) _) _) _
  rw [← hw0]
  clear hw0
  go_wp2
  go_loopw [7] (fun iv wr => ∃ k : Nat, iv = .int .i64 (k : Int) ∧ k ≤ 16 ∧ Below w.heap.size w wr ∧ BlkN wr 51 w.heap.size 16 m ∧ BlkN wr 51 (w.heap.size + 1) 16 (fun _ => 0) ∧ BlkN wr 51 (w.heap.size + 1 + 1) 16 (fun i => if i < k then ord m r i else 0)) (fun iv _ => 16 - (intOf iv).toNat)
  case atStart => exact ⟨0, rfl, by decide, hb0, bA0, bR0, bM0.congr (fun i _ => rfl)⟩
  case round =>
    obtain ⟨k, rfl, hk, hbr, bA, bR, bM⟩ := hrel
    clear hb0 bA0 bR0 bM0
    by_cases hlt : k < 16
    · have hki : (k : Int) < 16 := by omega
      have g0 := (HG.out.below hbr).2.2 q k hq10 hlt
      have hs := sig_lt q k
      have ca := bA.cell (sig q k) hs
      have eo := HSG.out k
      rw [← eo] at ca
      obtain ⟨j, ej⟩ : ∃ j, j = sig q k := ⟨_, rfl⟩
      rw [← ej] at g0 hs ca
      have fM := bM.frozen
      have cM := bM.cell k hlt
      obtain ⟨x, ex⟩ : ∃ x, x = ord m r k := ⟨_, rfl⟩
      rw [← ex] at ca
      have EX := (show Hid _ from ex)
      have hj0 : (0 : Int) ≤ (j : Int) := by omega
      have hj1 : (j : Int) < 16 := by omega
      clear eo ej ex
      go_wp2
      go_roundw
      case measure => simp [intOf]; omega
      case rel =>
        refine ⟨k + 1, by go_num, by omega, hbr.setCell (by dsimp only; omega) _, bA.other (by dsimp only; omega) _, bR.other (by dsimp only; omega) _, (bM.set k hlt x).congr ?_⟩
        intro i _
        by_cases hi : i = k
        · subst hi; rw [if_pos (by omega), if_pos rfl, EX.out]
        · rw [if_neg hi]
          by_cases h2 : i < k
          · rw [if_pos h2, if_pos (by omega)]
          · rw [if_neg h2, if_neg (by omega)]
    · have hki : ¬ (k : Int) < 16 := by omega
      have hk16 : k = 16 := by omega
      subst hk16
      clear hlt
      have bM := bM.congr (g := ord m r) (fun i hi => by rw [if_pos hi])
      have cE := bM.cell; have cr := bR.cell; have fr := bR.frozen
      go_wp2
      refine bodyPost_ret (v := .agg #[.int .u64 ((ord m r 0 : Nat) : Int), .int .u64 ((ord m r 1 : Nat) : Int), .int .u64 ((ord m r 2 : Nat) : Int), .int .u64 ((ord m r 3 : Nat) : Int), .int .u64 ((ord m r 4 : Nat) : Int), .int .u64 ((ord m r 5 : Nat) : Int), .int .u64 ((ord m r 6 : Nat) : Int), .int .u64 ((ord m r 7 : Nat) : Int), .int .u64 ((ord m r 8 : Nat) : Int), .int .u64 ((ord m r 9 : Nat) : Int), .int .u64 ((ord m r 10 : Nat) : Int), .int .u64 ((ord m r 11 : Nat) : Int), .int .u64 ((ord m r 12 : Nat) : Int), .int .u64 ((ord m r 13 : Nat) : Int), .int .u64 ((ord m r 14 : Nat) : Int), .int .u64 ((ord m r 15 : Nat) : Int)]) (by simp [results, Tryd.results23, go_sem, cr]) rfl ⟨rfl, ?_⟩
      repeat (first | with_reducible exact hbr | with_reducible refine Below.setCell ?_ (by first | omega | (simp; omega) | simp) _)

/-- A round with the words p. -/
def rndP (p v : Nat → Nat) : Nat → Nat := mixAt 3 4 9 14 (p 14) (p 15) (mixAt 2 7 8 13 (p 12) (p 13) (mixAt 1 6 11 12 (p 10) (p 11) (mixAt 0 5 10 15 (p 8) (p 9) (mixAt 3 7 11 15 (p 6) (p 7) (mixAt 2 6 10 14 (p 4) (p 5) (mixAt 1 5 9 13 (p 2) (p 3) (mixAt 0 4 8 12 (p 0) (p 1) v)))))))
theorem rndP_lt (p v : Nat → Nat) (h : ∀ i, v i < 18446744073709551616) : ∀ i, rndP p v i < 18446744073709551616 :=
  mixAt_lt _ _ _ _ _ _ _ (mixAt_lt _ _ _ _ _ _ _ (mixAt_lt _ _ _ _ _ _ _ (mixAt_lt _ _ _ _ _ _ _ (mixAt_lt _ _ _ _ _ _ _ (mixAt_lt _ _ _ _ _ _ _ (mixAt_lt _ _ _ _ _ _ _ (mixAt_lt _ _ _ _ _ _ _ h)))))))
/-- The first n rounds. -/
def rnds (m : Nat → Nat) (v : Nat → Nat) : Nat → Nat → Nat
  | 0 => v
  | n + 1 => rndP (ord m n) (rnds m v n)
theorem rnds_lt (m v : Nat → Nat) (h : ∀ i, v i < 18446744073709551616) : ∀ n i, rnds m v n i < 18446744073709551616
  | 0 => h
  | n + 1 => rndP_lt _ _ (rnds_lt m v h n)
/-- What the rounds begin with. -/
def beg (h : Nat → Nat) (t : Nat) (last : Bool) (i : Nat) : Nat :=
  if i < 8 then h i else if i = 12 then ivW 4 ^^^ t else if i = 14 ∧ last = true then 18446744073709551616 - 1 - ivW 6 else ivW (i - 8)
theorem beg_lt (h : Nat → Nat) (t : Nat) (last : Bool) (hh : ∀ i, h i < 18446744073709551616) (ht : t < 18446744073709551616) (i : Nat) : beg h t last i < 18446744073709551616 := by
  unfold beg
  split
  · exact hh i
  · split
    · exact xor_lt _ _ (ivW_lt 4) ht
    · split
      · omega
      · exact ivW_lt _
/-- A state with a block taken in. -/
def comp (h m : Nat → Nat) (t : Nat) (last : Bool) (i : Nat) : Nat := h i ^^^ (rnds m (beg h t last) 12 i ^^^ rnds m (beg h t last) 12 (i + 8))
theorem comp_lt (h m : Nat → Nat) (t : Nat) (last : Bool) (hh : ∀ i, h i < 18446744073709551616) (ht : t < 18446744073709551616) (i : Nat) : comp h m t last i < 18446744073709551616 :=
  xor_lt _ _ (hh i) (xor_lt _ _ (rnds_lt m _ (beg_lt h t last hh ht) 12 i) (rnds_lt m _ (beg_lt h t last hh ht) 12 (i + 8)))

end Go.Proofs.YtolaofoffakddaaDoor
