/- Slices of bytes: what Spare does. -/
import Derived.Test.YthkajdmcmodklaaGreatDoorYA
import Derived.Test.YthkajdmcmodklaaGreatDoorGA
namespace Go.Proofs.YthkajdmcmodklaaGreatDoor
open Go.RowKit

/-- n bytes of f, then marks. -/
def spB (f : Nat → Nat) (n i : Nat) : Nat := if i < n then f i else 201 + (i - n)
theorem bys_succ (f : Nat → Nat) (n : Nat) : bys f (n + 1) = bys f n ++ [Value.int .u8 ((f n : Nat) : Int)] := by
  unfold bys; rw [List.range_succ, List.map_append]; rfl
theorem bys_congr {f g : Nat → Nat} {n : Nat} (h : ∀ i, i < n → f i = g i) : bys f n = bys g n := by
  unfold bys
  apply List.map_congr_left
  intro i hi
  rw [h i (by simpa using hi)]

set_option maxHeartbeats 2000000 in
theorem spare_any (n : Nat) (v : Value) (f : Nat → Nat) (hn : n ≤ 140737488351232) (w : World) (h : Bs w v n f) :
    Calls Tryz.prog 18 #[v] w fun e w' => ∃ v', e = .returned v' ∧ w'.ownsRow w.heap.size 5 1 v' (n + 8) (bys (spB f n) (n + 8)) ∧ Below w.heap.size w w' := by
  obtain ⟨i0, hi, hz0, hz1, hz2⟩ := byteInfo
  have HI := (show Hid _ from hi); have HZ := (show Hid _ from And.intro hz0 (And.intro hz1 hz2)); clear hi hz0 hz1 hz2
  go_enter Tryz.func18, Tryz.ntmps18
  go_wp2_with fail
  refine (copy_any n v f hn w h).mono ?_
  rintro e w1 ⟨v1, rfl, hown1, hb1⟩
  rw [bys_congr (g := spB f n) (fun i hi => by unfold spB; rw [if_pos hi])] at hown1
  have HO1 := (show Hid _ from hown1)
  clear hown1 h
  go_wp2
  go_loopw [3, 4] (fun out i wr => ∃ k : Nat, i = .int .i64 (k : Int) ∧ k ≤ 8 ∧ Below w.heap.size w wr ∧ wr.ownsRow w.heap.size 5 1 out (n + k) (bys (spB f n) (n + k))) (fun _ i _ => 8 - (intOf i).toNat)
  case atStart => exact ⟨0, rfl, by decide, hb1, HO1.out⟩
  case round =>
    obtain ⟨k, rfl, hk, hbr, hown2⟩ := hrel
    clear HO1 hb1
    by_cases hlt : k < 8
    · have hki : (k : Int) < 8 := by omega
      obtain ⟨y, ey⟩ : ∃ y : Int, y = 201 + (k : Int) := ⟨_, rfl⟩
      have hw8 : IntKind.u8.wrap (201 + (k : Int)) = y := by rw [IntKind.wrap_u8, ey]; omega
      have EY := (show Hid _ from ey)
      clear ey
      have hsz := hbr.size
      go_wp2_with (first
        | (at_builtin; refine wpList_append_own _ rfl _ _ 34 rfl w.heap.size 5 i0 (.int .u8 0) 1 1 Tryz.underlying34 HI.out HZ.out.1 HZ.out.2.1 HZ.out.2.2 rfl (by decide) _ _ _ rfl (hown2.alloc _) ⟨wr.heap.size, 0, none⟩ 1 1 [.int .u8 y] rfl rfl ?c1 ?c2 ?c3 ?c4 ?c5 ?_)
        | go_in)
      case c1 =>
        intro j u hj
        match j, hj with
        | 0, hj => simp at hj; subst hj; simp [Addr.add]
      case c2 => intro u hu; simp at hu; subst hu; rfl
      case c3 => unfold maxLen; omega
      case c4 => omega
      case c5 => simp; omega
      intro v' w2 hown' hgrow _
      go_wp2
      go_roundw
      case measure => simp [intOf]; omega
      case rel =>
        have hB : Below w.heap.size wr w2 := ((Below.refl _ wr).alloc hsz _).grown hgrow (by simp; omega) (fun j hj => own_block_ge' hown2 hj)
        refine ⟨k + 1, by go_num, by omega, hbr.trans hB, ?_⟩
        rw [← Nat.add_assoc, bys_succ, show ((spB f n (n + k) : Nat) : Int) = y from by rw [EY.out]; unfold spB; rw [if_neg (by omega)]; omega]
        exact hown'
    · have hki : ¬ (k : Int) < 8 := by omega
      have hk8 : k = 8 := by omega
      subst hk8
      go_wp2
      go_ret
      exact ⟨_, rfl, hown2, hbr⟩
/-- A slice of bytes of the call's own that isn't empty. -/
theorem own_cellsB {w : World} {base : Nat} {v : Value} {n : Nat} {f : Nat → Nat} (h : w.ownsRow base 5 1 v n (bys f n)) (hn : n ≠ 0) :
    ∃ g c, v = .slice (some ⟨g, 0, none⟩) n c ∧ n ≤ c ∧ c ≤ maxLen ∧ base ≤ g ∧ g < w.heap.size ∧ ∀ i, i < n → w.cell? ⟨g, i, none⟩ = some (.int .u8 ((f i : Nat) : Int)) := by
  obtain ⟨hl, h⟩ := h
  rcases h with ⟨rfl, h0⟩ | ⟨g, c, cur, rfl, hb, hg, hc, hm, hs, ht⟩
  · exact absurd h0 hn
  · refine ⟨g, c, rfl, hc, hm, hb, ?_, ?_⟩
    · rcases Nat.lt_or_ge g w.heap.size with hlt | hge
      · exact hlt
      · rw [Array.getElem?_eq_none hge] at hg; cases hg
    · intro i hi
      have h1 : cur[i]? = (bys f n)[i]? := by rw [← ht]; simp [hi]
      rw [bys_get f n i hi] at h1
      simp [World.cell?, hg, h1]
theorem addr_at (g i : Nat) : (⟨g, 0, none⟩ : Addr).add i = ⟨g, i, none⟩ := by unfold Addr.add; split <;> simp_all
/-- The first n cells of a block, as bytes. -/
theorem cells_Bs {w : World} {g n c : Nat} {f : Nat → Nat} (h1 : n ≤ c) (h2 : c ≤ maxLen) (h3 : g < w.heap.size) (h4 : ∀ i, i < n → w.cell? ⟨g, i, none⟩ = some (.int .u8 ((f i : Nat) : Int))) : Bs w (.slice (some ⟨g, 0, none⟩) n c) n f :=
  Or.inr ⟨⟨g, 0, none⟩, c, rfl, h1, h2, h3, fun i hi => by rw [addr_at]; exact h4 i hi⟩

end Go.Proofs.YthkajdmcmodklaaGreatDoor

/- What the second reference's number does. -/
namespace Go.Proofs.YthkajdmcmodklaaGreatDoor
open Go.RowKit

set_option maxHeartbeats 4000000 in
set_option maxRecDepth 20000 in
theorem num_some (a : Addr) (c : Nat) (f : Nat → Nat) (w : World) (hl : a.block < w.heap.size) (hf : ∀ i, i < 32 → f i < 256) (hc : ∀ i, i < 32 → w.cell? (a.add i) = some (.int .u8 ((f i : Nat) : Int))) :
    Calls Tryz.prog 85 #[.slice (some a) 32 c] w fun e w' => e = .returned (.agg #[.int .u64 ((limb 0 (leN f 32) : Nat) : Int), .int .u64 ((limb 1 (leN f 32) : Nat) : Int), .int .u64 ((limb 2 (leN f 32) : Nat) : Int), .int .u64 ((limb 3 (leN f 32) : Nat) : Int)]) ∧ Below w.heap.size w w' := by
  have HC := (show Hid _ from hc); have HF := (show Hid _ from hf)
  clear hc hf
  go_enter Tryz.func85, Tryz.ntmps85
  go_wp2
  go_loopw [4] (fun iv wr => ∃ k : Nat, iv = .int .i64 (k : Int) ∧ k ≤ 32 ∧ Below w.heap.size w wr ∧ Blk wr 24 w.heap.size (fun _ => 0) ∧ Blk wr 24 (w.heap.size + 1) (fun i => limb i (leN f k))) (fun iv _ => 32 - (intOf iv).toNat)
  case atStart =>
    refine ⟨0, rfl, by decide, ?_, (Blk.newAt _ _ _ (fun _ => 0) rfl).alloc _, (Blk.newAt _ _ _ (fun _ => 0) (by simp)).congr (fun i _ => limbz i)⟩
    repeat (first | with_reducible exact Below.refl _ _ | with_reducible refine Below.alloc ?_ (by first | omega | (simp; omega) | simp) _)
  case round =>
    obtain ⟨k, rfl, hk, hbr, bR, bE⟩ := hrel
    by_cases hlt : k < 32
    · have hL := fun j => leN_limb f k j (fun i hi => HF.out i (by omega))
      have HL := (show Hid _ from hL)
      have hv : limb (k / 8) (leN f k) ||| (f k * 2 ^ (8 * (k % 8)) % 18446744073709551616) = limb (k / 8) (leN f (k + 1)) := by rw [hL (k / 8), if_pos rfl]
      have hR := le_or_run (limb (k / 8) (leN f k)) (f k) (8 * (k % 8)) (limb_lt _ _)
      rw [hv] at hR
      clear hL hv
      have cb : wr.cell? (a.add k) = some (.int .u8 ((f k : Nat) : Int)) := by
        rw [hbr.cell (p := a.add k) (by unfold Addr.add; split <;> exact hl)]
        exact HC.out k hlt
      have hfk := HF.out k hlt
      obtain ⟨iv, eiv⟩ : ∃ iv : Int, iv = (k : Int) := ⟨_, rfl⟩
      rw [← eiv]
      have h0 : 0 ≤ iv := by omega
      have h32 : iv < 32 := by omega
      have hq : iv / 8 = ((k / 8 : Nat) : Int) := by omega
      have hr : iv % 8 = ((k % 8 : Nat) : Int) := by omega
      have ht : 8 * ((k % 8 : Nat) : Int) = ((8 * (k % 8) : Nat) : Int) := by omega
      have tN : iv.toNat = k := by omega
      have q4 : k / 8 < 4 := by omega
      have t64 : 8 * (k % 8) < 64 := by omega
      have cE := bE.cell (k / 8) q4; have fE := bE.frozen
      have HIV := (show Hid _ from eiv)
      have wv : IntKind.u64.wrap ((f k : Nat) : Int) = ((f k : Nat) : Int) := by rw [IntKind.wrap_u64]; omega
      obtain ⟨q, eq⟩ : ∃ q, q = k / 8 := ⟨_, rfl⟩
      obtain ⟨r, er⟩ : ∃ r, r = k % 8 := ⟨_, rfl⟩
      have EQ := (show Hid _ from eq)
      rw [← eq] at hR hq q4 cE
      rw [← er] at hR hr ht t64
      obtain ⟨t, et⟩ : ∃ t, t = 8 * r := ⟨_, rfl⟩
      rw [← et] at hR ht t64
      obtain ⟨X, eX⟩ : ∃ X : Int, X = ((limb q (leN f k) : Nat) : Int) := ⟨_, rfl⟩
      rw [← eX] at hR cE
      obtain ⟨B, eB⟩ : ∃ B : Int, B = ((f k : Nat) : Int) := ⟨_, rfl⟩
      rw [← eB] at hR cb wv
      have hB0 : 0 ≤ B := by omega
      have hB1 : B < 256 := by omega
      obtain ⟨Y, eY⟩ : ∃ Y, Y = limb q (leN f (k + 1)) := ⟨_, rfl⟩
      rw [← eY] at hR
      have EY := (show Hid _ from eY)
      clear eiv eq er et eX eB eY hfk
      go_wp2_with fail
      go_region
      go_wp2
      go_roundw
      case measure => rw [HIV.out]; simp [intOf]; omega
      case rel =>
        refine ⟨k + 1, by rw [HIV.out]; go_num, by omega, (hbr.setCell (by dsimp only; omega) _).drew, (bR.other (by dsimp only; omega) _).drew, Blk.drew ((bE.set q q4 Y).congr ?_)⟩
        intro j _
        rw [HL.out j, ← EQ.out]
        by_cases hj : j = q
        · subst hj; rw [if_pos rfl, if_pos rfl, EY.out, HL.out j, if_pos EQ.out]
        · rw [if_neg hj, if_neg hj]
    · have hki : ¬ (k : Int) < 32 := by omega
      have hk32 : k = 32 := by omega
      subst hk32
      clear hlt
      obtain ⟨o, eo⟩ : ∃ o, o = leN f 32 := ⟨_, rfl⟩
      rw [← eo] at bE
      have EO := (show Hid _ from eo)
      clear eo
      have cE := bE.cell; have cr := bR.cell; have fr := bR.frozen
      go_wp2
      refine bodyPost_ret (v := .agg #[.int .u64 ((limb 0 (o) : Nat) : Int), .int .u64 ((limb 1 (o) : Nat) : Int), .int .u64 ((limb 2 (o) : Nat) : Int), .int .u64 ((limb 3 (o) : Nat) : Int)]) (by simp [results, Tryz.results85, go_sem, cr]) rfl ⟨by rw [EO.out], ?_⟩
      repeat (first | with_reducible exact hbr | with_reducible refine Below.setCell ?_ (by first | omega | (simp; omega) | simp) _)

/-- The second reference's number of 32 bytes. -/
theorem num_any (v : Value) (f : Nat → Nat) (w : World) (h : Bs w v 32 f) (hf : ∀ i, i < 32 → f i < 256) :
    Calls Tryz.prog 85 #[v] w fun e w' => e = .returned (.agg #[.int .u64 ((limb 0 (leN f 32) : Nat) : Int), .int .u64 ((limb 1 (leN f 32) : Nat) : Int), .int .u64 ((limb 2 (leN f 32) : Nat) : Int), .int .u64 ((limb 3 (leN f 32) : Nat) : Int)]) ∧ Below w.heap.size w w' := by
  rcases h with ⟨_, h0⟩ | ⟨a, c, rfl, _, _, hb, hc⟩
  · cases h0
  · exact num_some a c f w hb hf hc

end Go.Proofs.YthkajdmcmodklaaGreatDoor

/- Encode, Decode and Wide where there is no such sort, or another length. -/
namespace Go.Proofs.YthkajdmcmodklaaGreatDoor
open Go.RowKit

set_option maxHeartbeats 4000000 in
set_option maxRecDepth 20000 in
theorem fDecode_out (s : Int) (hs : s < 0 ∨ 4 ≤ s) (v : Value) (w : World) :
    Calls Tryz.prog 45 #[.int .i64 s, v] w fun e w' => e = .returned (.tuple #[.agg #[.int .u64 0, .int .u64 0, .int .u64 0, .int .u64 0], .int .i64 20]) ∧ Below w.heap.size w w' := by
  have HM := fun w => modulus_out s hs w
  clear hs
  go_enter Tryz.func45, Tryz.ntmps45
  go_wp2_with fail
  obtain ⟨w0, hw0⟩ : ∃ w0 : World, w0 = w.alloc (.cells #[.int .u64 0, .int .u64 0, .int .u64 0, .int .u64 0] 24) := ⟨_, rfl⟩
  have br0 : Blk w0 24 w.heap.size (fun _ => 0) := by rw [hw0]; exact Blk.newAt _ _ _ (fun _ => 0) (by simp)
  have hb0 : Below w.heap.size w w0 := by rw [hw0]; exact (Below.refl _ _).alloc (Nat.le_refl _) _
  rw [← hw0]
  clear hw0
  refine (HM _).mono ?_
  rintro e w1 ⟨rfl, hb1⟩
  have br1 := br0.belowAll hb1
  have hbw1 := bStep hb0 hb1
  have cr := br1.cell; have fr := br1.frozen; have lr := br1.lt
  clear br0 hb0 hb1 HM
  go_wp2
  refine bodyPost_ret (v := .tuple #[.agg #[.int .u64 0, .int .u64 0, .int .u64 0, .int .u64 0], .int .i64 20]) (by simp [results, Tryz.results45, go_sem, cr, cell_old, lr]) rfl ⟨rfl, ?_⟩
  have hz1 := hbw1.size
  repeat (first | with_reducible exact hbw1 | with_reducible refine Below.drew ?_ | with_reducible refine Below.setCell ?_ (by first | omega | (simp; omega) | simp) _ | with_reducible refine Below.alloc ?_ (by first | omega | (simp; omega) | simp) _)

set_option maxHeartbeats 4000000 in
set_option maxRecDepth 20000 in
theorem rDecode_out (s : Int) (hs : s < 0 ∨ 4 ≤ s) (v : Value) (w : World) :
    Calls Tryz.prog 47 #[.int .i64 s, v] w fun e w' => e = .returned (.tuple #[.agg #[.int .u64 0, .int .u64 0, .int .u64 0, .int .u64 0], .int .i64 20]) ∧ Below w.heap.size w w' := by
  have HM := fun w => ref2Modulus_out s hs w
  clear hs
  go_enter Tryz.func47, Tryz.ntmps47
  go_wp2_with fail
  obtain ⟨w0, hw0⟩ : ∃ w0 : World, w0 = w.alloc (.cells #[.int .u64 0, .int .u64 0, .int .u64 0, .int .u64 0] 24) := ⟨_, rfl⟩
  have br0 : Blk w0 24 w.heap.size (fun _ => 0) := by rw [hw0]; exact Blk.newAt _ _ _ (fun _ => 0) (by simp)
  have hb0 : Below w.heap.size w w0 := by rw [hw0]; exact (Below.refl _ _).alloc (Nat.le_refl _) _
  rw [← hw0]
  clear hw0
  refine (HM _).mono ?_
  rintro e w1 ⟨rfl, hb1⟩
  have br1 := br0.belowAll hb1
  have hbw1 := bStep hb0 hb1
  have cr := br1.cell; have fr := br1.frozen; have lr := br1.lt
  clear br0 hb0 hb1 HM
  go_wp2
  refine bodyPost_ret (v := .tuple #[.agg #[.int .u64 0, .int .u64 0, .int .u64 0, .int .u64 0], .int .i64 20]) (by simp [results, Tryz.results47, go_sem, cr, cell_old, lr]) rfl ⟨rfl, ?_⟩
  have hz1 := hbw1.size
  repeat (first | with_reducible exact hbw1 | with_reducible refine Below.drew ?_ | with_reducible refine Below.setCell ?_ (by first | omega | (simp; omega) | simp) _ | with_reducible refine Below.alloc ?_ (by first | omega | (simp; omega) | simp) _)

set_option maxHeartbeats 4000000 in
set_option maxRecDepth 20000 in
theorem fEncode_out (s : Int) (hs : s < 0 ∨ 4 ≤ s) (a : Nat) (w : World) :
    Calls Tryz.prog 49 #[.int .i64 s, .agg #[.int .u64 ((limb 0 (a) : Nat) : Int), .int .u64 ((limb 1 (a) : Nat) : Int), .int .u64 ((limb 2 (a) : Nat) : Int), .int .u64 ((limb 3 (a) : Nat) : Int)]] w fun e w' => e = .returned (.slice none 0 0) ∧ Below w.heap.size w w' := by
  have HM := fun w => modulus_out s hs w
  clear hs
  go_enter Tryz.func49, Tryz.ntmps49
  go_wp2_with fail
  refine (HM _).mono ?_
  rintro e w1 ⟨rfl, hb1⟩
  have hbw1 := bStep (bAlloc (Below.refl _ w) _) hb1
  clear hb1 HM
  go_wp2
  go_ret
  refine ⟨rfl, ?_⟩
  have hz1 := hbw1.size
  repeat (first | with_reducible exact hbw1 | with_reducible refine Below.drew ?_ | with_reducible refine Below.setCell ?_ (by first | omega | (simp; omega) | simp) _ | with_reducible refine Below.alloc ?_ (by first | omega | (simp; omega) | simp) _)

set_option maxHeartbeats 4000000 in
set_option maxRecDepth 20000 in
theorem rEncode_out (s : Int) (hs : s < 0 ∨ 4 ≤ s) (a : Nat) (w : World) :
    Calls Tryz.prog 51 #[.int .i64 s, .agg #[.int .u64 ((limb 0 (a) : Nat) : Int), .int .u64 ((limb 1 (a) : Nat) : Int), .int .u64 ((limb 2 (a) : Nat) : Int), .int .u64 ((limb 3 (a) : Nat) : Int)]] w fun e w' => e = .returned (.slice none 0 0) ∧ Below w.heap.size w w' := by
  have HM := fun w => ref2Modulus_out s hs w
  clear hs
  go_enter Tryz.func51, Tryz.ntmps51
  go_wp2_with fail
  refine (HM _).mono ?_
  rintro e w1 ⟨rfl, hb1⟩
  have hbw1 := bStep (bAlloc (Below.refl _ w) _) hb1
  clear hb1 HM
  go_wp2
  go_ret
  refine ⟨rfl, ?_⟩
  have hz1 := hbw1.size
  repeat (first | with_reducible exact hbw1 | with_reducible refine Below.drew ?_ | with_reducible refine Below.setCell ?_ (by first | omega | (simp; omega) | simp) _ | with_reducible refine Below.alloc ?_ (by first | omega | (simp; omega) | simp) _)

end Go.Proofs.YthkajdmcmodklaaGreatDoor

/- What the second reference's Encode does. -/
namespace Go.Proofs.YthkajdmcmodklaaGreatDoor
open Go.RowKit

set_option maxHeartbeats 4000000 in
set_option maxRecDepth 20000 in
theorem rEncode_any (s a : Nat) (hs : s < 4) (ha : a < 115792089237316195423570985008687907853269984665640564039457584007913129639936) (w : World) :
    Calls Tryz.prog 51 #[.int .i64 (s : Int), .agg #[.int .u64 ((limb 0 (a) : Nat) : Int), .int .u64 ((limb 1 (a) : Nat) : Int), .int .u64 ((limb 2 (a) : Nat) : Int), .int .u64 ((limb 3 (a) : Nat) : Int)]] w fun e w' => ∃ v, e = .returned v ∧ w'.ownsRow w.heap.size 5 1 v 32 (bys (encB (a % modN s)) 32) ∧ Below w.heap.size w w' := by
  obtain ⟨i0, hi, hz0, hz1, hz2⟩ := byteInfo
  have HI := (show Hid _ from hi); have HZ := (show Hid _ from And.intro hz0 (And.intro hz1 hz2)); clear hi hz0 hz1 hz2
  have HM := fun w => ref2Modulus_any s hs w
  have OF := fun w => ref2Of_any s a hs ha w
  obtain ⟨m, em⟩ : ∃ m, m = modN s := ⟨_, rfl⟩
  rw [← em] at HM OF ⊢
  clear em
  obtain ⟨x, ex⟩ : ∃ x, x = a % m := ⟨_, rfl⟩
  rw [← ex] at OF ⊢
  clear ex ha hs
  go_enter Tryz.func51, Tryz.ntmps51
  go_wp2_with fail
  obtain ⟨w0, hw0⟩ : ∃ w0 : World, w0 = w.alloc (.cells #[.int .u64 ((limb 0 (a) : Nat) : Int), .int .u64 ((limb 1 (a) : Nat) : Int), .int .u64 ((limb 2 (a) : Nat) : Int), .int .u64 ((limb 3 (a) : Nat) : Int)] 24) := ⟨_, rfl⟩
  have ba0 : Blk w0 24 w.heap.size (fun i => limb i a) := by rw [hw0]; exact Blk.newAt _ _ _ (fun i => limb i a) (by simp)
  have hbw0 : Below w.heap.size w w0 := by rw [hw0]; exact (Below.refl _ _).alloc (Nat.le_refl _) _
  rw [← hw0]
  clear hw0
  refine (HM _).mono ?_
  rintro e w1 ⟨rfl, hb1⟩
  have ba1 := ba0.belowAll hb1
  have hbw1 := bStep hbw0 hb1
  clear ba0 hbw0 hb1 HM
  have ba2 := ba1.alloc (.cells #[.int .u64 ((limb 0 (m) : Nat) : Int), .int .u64 ((limb 1 (m) : Nat) : Int), .int .u64 ((limb 2 (m) : Nat) : Int), .int .u64 ((limb 3 (m) : Nat) : Int)] 24)
  have hbw2 := bAlloc hbw1 (.cells #[.int .u64 ((limb 0 (m) : Nat) : Int), .int .u64 ((limb 1 (m) : Nat) : Int), .int .u64 ((limb 2 (m) : Nat) : Int), .int .u64 ((limb 3 (m) : Nat) : Int)] 24)
  go_upto_region 2 with fail
  obtain ⟨w2, hw2⟩ : ∃ w2 : World, w2 = w1.alloc (.cells #[.int .u64 ((limb 0 (m) : Nat) : Int), .int .u64 ((limb 1 (m) : Nat) : Int), .int .u64 ((limb 2 (m) : Nat) : Int), .int .u64 ((limb 3 (m) : Nat) : Int)] 24) := ⟨_, rfl⟩
  rw [← hw2] at ba2 hbw2 ⊢
  clear hw2 ba1 hbw1
  have ca := ba2.cell
  go_wp2_with fail
  refine (OF _).mono ?_
  rintro e w3 ⟨rfl, hb3⟩
  have ba3 := ba2.belowAll hb3
  have hbw3 := bStep hbw2 hb3
  clear ba2 hbw2 hb3 OF ca
  have ct := ba3.cell; have ft := ba3.frozen
  go_upto_region 5 with fail
  obtain ⟨w4, hw4⟩ : ∃ w4 : World, w4 = (((w3.setCell ⟨w.heap.size, 0, none⟩ (.int .u64 ((limb 0 x : Nat) : Int))).setCell ⟨w.heap.size, 1, none⟩ (.int .u64 ((limb 1 x : Nat) : Int))).setCell ⟨w.heap.size, 2, none⟩ (.int .u64 ((limb 2 x : Nat) : Int))).setCell ⟨w.heap.size, 3, none⟩ (.int .u64 ((limb 3 x : Nat) : Int)) := ⟨_, rfl⟩
  have ba4 : Blk w4 24 w.heap.size (fun i => limb i x) := by rw [hw4]; exact ba3.set4 (fun i => limb i x)
  have hbw4 : Below w.heap.size w w4 := by rw [hw4]; exact bSet4 hbw3 (Nat.le_refl _) _ _ _ _
  rw [← hw4]
  clear hw4 ba3 hbw3 ct ft
  have hl4 := ba4.lt
  obtain ⟨N, eN⟩ : ∃ N, N = w.heap.size + 1 := ⟨_, rfl⟩
  have hown0 : (w4.alloc (.cells #[] 5)).ownsRow (w.heap.size + 1) 5 1 (.slice (some ⟨w4.heap.size, 0, none⟩) 0 0) 0 (bys (encB x) 0) :=
    ⟨rfl, Or.inr ⟨w4.heap.size, 0, #[], rfl, hl4, new_block' _ _, Nat.le_refl _, by decide, rfl, rfl⟩⟩
  have HO : Hid ((w4.alloc (.cells #[] 5)).ownsRow (w.heap.size + 1) 5 1 (.slice (some ⟨w4.heap.size, 0, none⟩) 0 0) 0 (bys (encB x) 0)) := hown0
  clear hown0
  go_wp2
  go_loopw [7, 8] (fun out i wr => ∃ k : Nat, i = .int .i64 (k : Int) ∧ k ≤ 32 ∧ Below w.heap.size w wr ∧ Blk wr 24 w.heap.size (fun i => limb i x) ∧ wr.ownsRow (w.heap.size + 1) 5 1 out k (bys (encB x) k)) (fun _ i _ => 32 - (intOf i).toNat)
  case atStart => exact ⟨0, rfl, by decide, bAlloc hbw4 _, ba4.alloc _, HO.out⟩
  case round =>
    obtain ⟨k, rfl, hk, hbr, bx, hown2⟩ := hrel
    clear ba4 hbw4 HO hl4
    by_cases hlt : k < 32
    · have hR := enc_run (encB x k) (limb (k / 8) x) (8 * (k % 8)) (encB_limb x k)
      obtain ⟨iv, eiv⟩ : ∃ iv : Int, iv = (k : Int) := ⟨_, rfl⟩
      rw [← eiv]
      have h0 : 0 ≤ iv := by omega
      have h32 : iv < 32 := by omega
      have hq : iv / 8 = ((k / 8 : Nat) : Int) := by omega
      have hr : iv % 8 = ((k % 8 : Nat) : Int) := by omega
      have ht : 8 * ((k % 8 : Nat) : Int) = ((8 * (k % 8) : Nat) : Int) := by omega
      have tN : iv.toNat = k := by omega
      have q4 : k / 8 < 4 := by omega
      have t64 : 8 * (k % 8) < 64 := by omega
      have cx := bx.cell (k / 8) q4
      have HIV := (show Hid _ from eiv)
      obtain ⟨q, eq⟩ : ∃ q, q = k / 8 := ⟨_, rfl⟩
      obtain ⟨r, er⟩ : ∃ r, r = k % 8 := ⟨_, rfl⟩
      rw [← eq] at hR hq q4 cx
      rw [← er] at hR hr ht t64
      obtain ⟨t, et⟩ : ∃ t, t = 8 * r := ⟨_, rfl⟩
      rw [← et] at hR ht t64
      obtain ⟨X, eX⟩ : ∃ X : Int, X = ((limb q x : Nat) : Int) := ⟨_, rfl⟩
      rw [← eX] at hR cx
      obtain ⟨b, eb⟩ : ∃ b, b = encB x k := ⟨_, rfl⟩
      rw [← eb] at hR
      have EB := (show Hid _ from eb)
      clear eiv eq er et eX eb
      have hsz := bx.lt
      go_wp2_with (first
        | (at_builtin; refine wpList_append_own _ rfl _ _ 34 rfl (w.heap.size + 1) 5 i0 (.int .u8 0) 1 1 Tryz.underlying34 HI.out HZ.out.1 HZ.out.2.1 HZ.out.2.2 rfl (by decide) _ _ _ rfl (hown2.alloc _) ⟨wr.heap.size, 0, none⟩ 1 1 [.int .u8 (b : Int)] rfl rfl ?c1 ?c2 ?c3 ?c4 ?c5 ?_)
        | go_in)
      case c1 =>
        intro j u hj
        match j, hj with
        | 0, hj => simp at hj; subst hj; simp [Addr.add]
      case c2 => intro u hu; simp at hu; subst hu; rfl
      case c3 => unfold maxLen; omega
      case c4 => omega
      case c5 => simp; omega
      intro v' w5 hown' hgrow _
      go_wp2
      go_roundw
      case measure => rw [HIV.out]; simp [intOf]; omega
      case rel =>
        have hB : Below (w.heap.size + 1) wr w5 := ((Below.refl _ wr).alloc hsz _).grown hgrow (by simp; omega) (fun j hj => own_block_ge' hown2 hj)
        refine ⟨k + 1, by rw [HIV.out]; go_num, by omega, hbr.trans (hB.mono (by omega)), bx.below hB (by omega), ?_⟩
        rw [bys_succ, ← EB.out]
        exact hown'
    · have hki : ¬ (k : Int) < 32 := by omega
      have hk32 : k = 32 := by omega
      subst hk32
      go_wp2
      go_ret
      refine ⟨_, rfl, ?_, hbr⟩
      obtain ⟨h1, h2⟩ := hown2
      refine ⟨h1, ?_⟩
      rcases h2 with h2 | ⟨g, c, cur, h3, h4, h5⟩
      · exact Or.inl h2
      · exact Or.inr ⟨g, c, cur, h3, by omega, h5⟩

end Go.Proofs.YthkajdmcmodklaaGreatDoor

/- What the second reference's Decode does. -/
namespace Go.Proofs.YthkajdmcmodklaaGreatDoor
open Go.RowKit

set_option maxHeartbeats 8000000 in
set_option maxRecDepth 20000 in
/-- The second reference's Decode of bytes that aren't 32. -/
theorem rDecode_len (s n c : Nat) (oa : Option Addr) (hs : s < 4) (hn : ¬ n = 32) (w : World) :
    Calls Tryz.prog 47 #[.int .i64 (s : Int), .slice oa n c] w fun e w' => e = .returned (.tuple #[.agg #[.int .u64 0, .int .u64 0, .int .u64 0, .int .u64 0], .int .i64 21]) ∧ Below w.heap.size w w' := by
  have HM := fun w => ref2Modulus_any s hs w
  obtain ⟨m, em⟩ : ∃ m, m = modN s := ⟨_, rfl⟩
  rw [← em] at HM
  clear em hs
  have h1 : ((n : Int) != 32) = true := by simp; omega
  clear hn
  go_enter Tryz.func47, Tryz.ntmps47
  go_wp2_with fail
  obtain ⟨w0, hw0⟩ : ∃ w0 : World, w0 = w.alloc (.cells #[.int .u64 0, .int .u64 0, .int .u64 0, .int .u64 0] 24) := ⟨_, rfl⟩
  have br0 : Blk w0 24 w.heap.size (fun _ => 0) := by rw [hw0]; exact Blk.newAt _ _ _ (fun _ => 0) (by simp)
  have hb0 : Below w.heap.size w w0 := by rw [hw0]; exact (Below.refl _ _).alloc (Nat.le_refl _) _
  rw [← hw0]
  clear hw0
  refine (HM _).mono ?_
  rintro e w1 ⟨rfl, hb1⟩
  have br1 := br0.belowAll hb1
  have hbw1 := bStep hb0 hb1
  have lr1 := br1.lt
  clear br0 hb0 hb1 HM
  obtain ⟨N6, e6⟩ : ∃ N6, N6 = w1.heap.size := ⟨_, rfl⟩
  obtain ⟨w2, hw2⟩ : ∃ w2 : World, w2 = w1.alloc (.cells #[.int .u64 ((limb 0 (m) : Nat) : Int), .int .u64 ((limb 1 (m) : Nat) : Int), .int .u64 ((limb 2 (m) : Nat) : Int), .int .u64 ((limb 3 (m) : Nat) : Int)] 24) := ⟨_, rfl⟩
  have br2 : Blk w2 24 w.heap.size (fun _ => 0) := by rw [hw2]; exact br1.alloc _
  have bm2 : Blk w2 24 N6 (fun i => limb i m) := by rw [hw2]; exact Blk.newAt _ _ _ (fun i => limb i m) e6
  have hbw2 : Below w.heap.size w w2 := by rw [hw2]; exact bAlloc hbw1 _
  go_upto_region 4 with fail
  rw [← hw2, ← e6]
  have l6 : w.heap.size < N6 := by omega
  clear hw2 br1 hbw1 e6
  go_wp2_with fail
  go_region
  have cr := br2.cell; have fr := br2.frozen; have lr := br2.lt
  go_wp2
  refine bodyPost_ret (v := .tuple #[.agg #[.int .u64 0, .int .u64 0, .int .u64 0, .int .u64 0], .int .i64 21]) (by simp [results, Tryz.results47, go_sem, cr]) rfl ⟨rfl, ?_⟩
  repeat (first | with_reducible exact hbw2 | with_reducible refine Below.drew ?_ | with_reducible refine Below.setCell ?_ (by first | omega | (simp; omega) | simp) _)

set_option maxHeartbeats 8000000 in
set_option maxRecDepth 20000 in
/-- The second reference's Decode of 32 bytes. -/
theorem rDecode_32 (s : Nat) (v : Value) (f : Nat → Nat) (hs : s < 4) (w : World) (h : Bs w v 32 f) (hf : ∀ i, i < 32 → f i < 256) :
    Calls Tryz.prog 47 #[.int .i64 (s : Int), v] w fun e w' => e = .returned (decV (modN s) (leN f 32)) ∧ Below w.heap.size w w' := by
  have HM := fun w => ref2Modulus_any s hs w
  have hm := (modN_good s).lt.2.2
  obtain ⟨m, em⟩ : ∃ m, m = modN s := ⟨_, rfl⟩
  rw [← em] at HM hm ⊢
  clear em hs
  have lx := leN_M f hf
  have NU := fun w (h : Bs w v 32 f) => num_any v f w h hf
  obtain ⟨x, ex⟩ : ∃ x, x = leN f 32 := ⟨_, rfl⟩
  rw [← ex] at lx NU ⊢
  clear ex hf
  have IB := fun w => ref2Below_any x m lx hm w
  have HB := (show Hid (Bs w v 32 f) from h)
  obtain ⟨oa, cb, rfl⟩ : ∃ oa cb, v = .slice oa 32 cb := by
    rcases h.cases with ⟨_, h0⟩ | ⟨a, c, rfl⟩
    · cases h0
    · exact ⟨_, _, rfl⟩
  clear h
  go_enter Tryz.func47, Tryz.ntmps47
  go_wp2_with fail
  obtain ⟨w0, hw0⟩ : ∃ w0 : World, w0 = w.alloc (.cells #[.int .u64 0, .int .u64 0, .int .u64 0, .int .u64 0] 24) := ⟨_, rfl⟩
  have br0 : Blk w0 24 w.heap.size (fun _ => 0) := by rw [hw0]; exact Blk.newAt _ _ _ (fun _ => 0) (by simp)
  have hb0 : Below w.heap.size w w0 := by rw [hw0]; exact (Below.refl _ _).alloc (Nat.le_refl _) _
  rw [← hw0]
  clear hw0
  refine (HM _).mono ?_
  rintro e w1 ⟨rfl, hb1⟩
  have br1 := br0.belowAll hb1
  have hbw1 := bStep hb0 hb1
  have lr1 := br1.lt
  clear br0 hb0 hb1 HM
  obtain ⟨N6, e6⟩ : ∃ N6, N6 = w1.heap.size := ⟨_, rfl⟩
  obtain ⟨w2, hw2⟩ : ∃ w2 : World, w2 = w1.alloc (.cells #[.int .u64 ((limb 0 (m) : Nat) : Int), .int .u64 ((limb 1 (m) : Nat) : Int), .int .u64 ((limb 2 (m) : Nat) : Int), .int .u64 ((limb 3 (m) : Nat) : Int)] 24) := ⟨_, rfl⟩
  have br2 : Blk w2 24 w.heap.size (fun _ => 0) := by rw [hw2]; exact br1.alloc _
  have bm2 : Blk w2 24 N6 (fun i => limb i m) := by rw [hw2]; exact Blk.newAt _ _ _ (fun i => limb i m) e6
  have hbw2 : Below w.heap.size w w2 := by rw [hw2]; exact bAlloc hbw1 _
  go_upto_region 4 with fail
  rw [← hw2, ← e6]
  have l6 : w.heap.size < N6 := by omega
  clear hw2 br1 hbw1 e6
  have hBd : Bs w2.drew (.slice oa 32 cb) 32 f := HB.out.below hbw2.drew
  by_cases hlt : x < m
  · rw [show below256 x m = true from by simp [below256, hlt]] at IB
    have EV : Hid (decV m x = .tuple #[.agg #[.int .u64 ((limb 0 (x) : Nat) : Int), .int .u64 ((limb 1 (x) : Nat) : Int), .int .u64 ((limb 2 (x) : Nat) : Int), .int .u64 ((limb 3 (x) : Nat) : Int)], .int .i64 0]) := if_pos hlt
    clear hlt
    go_wp2_with fail
    go_region_held3 (fun w' => ∀ i, i < 4 → w'.cell? ⟨N6, i, none⟩ = some (.int .u64 ((limb i m : Nat) : Int)))
      (first | with_reducible exact hold1 hbB (by with_reducible assumption) | with_reducible exact hold1 hbA (by with_reducible assumption) | with_reducible exact bm2.drew.cell)
      (first | (go_at_call 85; with_reducible refine (NU _ hBd).mono ?_; rintro e wA ⟨rfl, hbA⟩) | (go_at_call 61; with_reducible refine (IB _).mono ?_; rintro e w5 ⟨rfl, hbB⟩) | fail)
    have br5 := (br2.drew.belowAll hbA).belowAll hbB
    have hbw5 := bStep (bStep hbw2.drew hbA) hbB
    clear br2 bm2 hbw2 hbA hbB
    have hB5 : Bs w5 (.slice oa 32 cb) 32 f := HB.out.below hbw5
    go_wp2_with fail
    refine (NU _ hB5).mono ?_
    rintro e w6 ⟨rfl, hb6⟩
    have br6 := br5.belowAll hb6
    have hbw6 := bStep hbw5 hb6
    have cr := br6.cell; have fr := br6.frozen; have lr := br6.lt
    go_wp2
    refine bodyPost_ret (v := .tuple #[.agg #[.int .u64 ((limb 0 (x) : Nat) : Int), .int .u64 ((limb 1 (x) : Nat) : Int), .int .u64 ((limb 2 (x) : Nat) : Int), .int .u64 ((limb 3 (x) : Nat) : Int)], .int .i64 0]) (by simp [results, Tryz.results47, go_sem, cr]) rfl ⟨by rw [EV.out], ?_⟩
    repeat (first | with_reducible exact hbw6 | with_reducible refine Below.setCell ?_ (by first | omega | (simp; omega) | simp) _)
  · rw [show below256 x m = false from by simp [below256]; omega] at IB
    have EV : Hid (decV m x = .tuple #[.agg #[.int .u64 0, .int .u64 0, .int .u64 0, .int .u64 0], .int .i64 21]) := if_neg hlt
    clear hlt
    go_wp2_with fail
    go_region_held3 (fun w' => ∀ i, i < 4 → w'.cell? ⟨N6, i, none⟩ = some (.int .u64 ((limb i m : Nat) : Int)))
      (first | with_reducible exact hold1 hbB (by with_reducible assumption) | with_reducible exact hold1 hbA (by with_reducible assumption) | with_reducible exact bm2.drew.cell)
      (first | (go_at_call 85; with_reducible refine (NU _ hBd).mono ?_; rintro e wA ⟨rfl, hbA⟩) | (go_at_call 61; with_reducible refine (IB _).mono ?_; rintro e w5 ⟨rfl, hbB⟩) | fail)
    have br5 := (br2.drew.belowAll hbA).belowAll hbB
    have hbw5 := bStep (bStep hbw2.drew hbA) hbB
    clear br2 bm2 hbw2 hbA hbB
    have cr := br5.cell; have fr := br5.frozen; have lr := br5.lt
    go_wp2
    refine bodyPost_ret (v := .tuple #[.agg #[.int .u64 0, .int .u64 0, .int .u64 0, .int .u64 0], .int .i64 21]) (by simp [results, Tryz.results47, go_sem, cr]) rfl ⟨by rw [EV.out], ?_⟩
    repeat (first | with_reducible exact hbw5 | with_reducible refine Below.setCell ?_ (by first | omega | (simp; omega) | simp) _)

end Go.Proofs.YthkajdmcmodklaaGreatDoor

