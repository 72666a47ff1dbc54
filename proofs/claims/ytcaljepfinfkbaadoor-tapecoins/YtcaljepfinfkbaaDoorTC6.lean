/- Writer.say, Scalar, Bytes; alive. -/
import Derived.Test.YtcaljepfinfkbaaDoorTC5
import Derived.Test.YtcaljepfinfkbaaDoorYA
namespace Go.Proofs.YtcaljepfinfkbaaDoor
open Go.RowKit

set_option maxHeartbeats 2000000 in
set_option maxRecDepth 20000 in
theorem clone_some (n cn : Nat) (a : Addr) (f : Nat → Nat) (hn : n ≤ 140737488351232) (w : World) (ha : a.block < w.heap.size) (hc : ∀ i, i < n → w.cell? (a.add i) = some (.int .u8 ((f i : Nat) : Int))) :
    Calls Tryd.prog 17 #[.slice (some a) n cn] w fun e w' => ∃ v, e = .returned v ∧ w'.ownsRow w.heap.size 5 1 v n (bys f n) ∧ Below w.heap.size w w' := by
  obtain ⟨i0, hi, hz0, hz1, hz2⟩ := byteInfo
  have HI := (show Hid _ from hi); have HZ := (show Hid _ from And.intro hz0 (And.intro hz1 hz2)); clear hi hz0 hz1 hz2
  have HC := (show Hid _ from hc); clear hc
  have hown0 : (w.alloc (.cells #[] 5)).ownsRow w.heap.size 5 1 (.slice (some ⟨w.heap.size, 0, none⟩) 0 0) 0 [] :=
    ⟨rfl, Or.inr ⟨w.heap.size, 0, #[], rfl, Nat.le_refl _, new_block' _ _, Nat.le_refl _, by decide, rfl, rfl⟩⟩
  have HO : Hid ((w.alloc (.cells #[] 5)).ownsRow w.heap.size 5 1 (.slice (some ⟨w.heap.size, 0, none⟩) 0 0) 0 []) := hown0
  clear hown0
  have EQ : (binOp .eql 43 (.slice (some a) n cn) (.slice none 0 0)).run Tryd.prog w = .ok (.bool false) w := by
    rw [Lib.run_eql_slice_nil w 43 5 (some a) n cn 0 0 Tryd.underlying43]; rfl
  go_enter Tryd.func17, Tryd.ntmps17
  go_wp2_with (first
    | (at_builtin; refine wpList_append_own _ rfl _ _ 43 rfl w.heap.size 5 i0 (.int .u8 0) 1 1 Tryd.underlying43 HI.out HZ.out.1 HZ.out.2.1 HZ.out.2.2 rfl (by decide) _ _ _ rfl HO.out a n cn (bys f n) rfl ?c0 ?c1 ?c2 ?c3 ?c4 ?c5 ?_)
    | go_in)
  case c0 => rw [bys_len]; omega
  case c1 =>
    intro j u hj
    have hjn : j < n := by
      rcases Nat.lt_or_ge j n with h | h
      · exact h
      · rw [List.getElem?_eq_none (by rw [bys_len]; exact h)] at hj; cases hj
    rw [bys_get f n j hjn] at hj
    cases hj
    have hb : Below w.heap.size w (w.alloc (.cells #[] 5)) := (Below.refl _ _).alloc (Nat.le_refl _) _
    rw [hb.cell (p := a.add j) (by unfold Addr.add; split <;> exact ha)]
    exact HC.out j hjn
  case c2 => intro u hu; unfold bys at hu; obtain ⟨i, _, rfl⟩ := List.mem_map.mp hu; rfl
  case c3 => unfold maxLen; omega
  case c4 => omega
  case c5 => simp
  intro v' w2 hown' hgrow _
  go_wp2
  go_ret
  refine ⟨_, rfl, ?_, ?_⟩
  · exact hown'
  · exact ((Below.refl _ w).alloc (Nat.le_refl _) _).grown hgrow (by simp) (fun j hj => own_block_ge' HO.out hj)
theorem limb_few (a : Nat) (ha : a < 18446744073709551616) : limb 0 a = a ∧ limb 1 a = 0 ∧ limb 2 a = 0 ∧ limb 3 a = 0 := by
  unfold limb
  refine ⟨?_, ?_, ?_, ?_⟩ <;> omega
theorem two_Es (w : World) (a b : Nat) (ha : a < 18446744073709551616) (hb : b < 18446744073709551616) : Es (w.alloc (.cells #[.int .u64 (a : Int), .int .u64 0, .int .u64 0, .int .u64 0, .int .u64 (b : Int), .int .u64 0, .int .u64 0, .int .u64 0] 29)) (.slice (some ⟨w.heap.size, 0, none⟩) 2 2) 2 (fun i => if i = 0 then a else b) := by
  obtain ⟨a0, a1, a2, a3⟩ := limb_few a ha
  obtain ⟨b0, b1, b2, b3⟩ := limb_few b hb
  refine Or.inr ⟨w.heap.size, 0, 2, rfl, Nat.le_refl _, by unfold maxLen; decide, by rw [show (w.alloc _).heap.size = w.heap.size + 1 from Array.size_push ..]; omega, fun i hi j hj => ?_⟩
  have h := new_blockE w (.cells #[.int .u64 (a : Int), .int .u64 0, .int .u64 0, .int .u64 0, .int .u64 (b : Int), .int .u64 0, .int .u64 0, .int .u64 0] 29)
  have hi2 : i = 0 ∨ i = 1 := by omega
  have hj4 : j = 0 ∨ j = 1 ∨ j = 2 ∨ j = 3 := by omega
  rcases hi2 with rfl | rfl <;> rcases hj4 with rfl | rfl | rfl | rfl
  · show _ = some (Value.int .u64 ((limb 0 a : Nat) : Int)); rw [a0]; simp only [World.cell?, h]; rfl
  · show _ = some (Value.int .u64 ((limb 1 a : Nat) : Int)); rw [a1]; simp only [World.cell?, h]; rfl
  · show _ = some (Value.int .u64 ((limb 2 a : Nat) : Int)); rw [a2]; simp only [World.cell?, h]; rfl
  · show _ = some (Value.int .u64 ((limb 3 a : Nat) : Int)); rw [a3]; simp only [World.cell?, h]; rfl
  · show _ = some (Value.int .u64 ((limb 0 b : Nat) : Int)); rw [b0]; simp only [World.cell?, h]; rfl
  · show _ = some (Value.int .u64 ((limb 1 b : Nat) : Int)); rw [b1]; simp only [World.cell?, h]; rfl
  · show _ = some (Value.int .u64 ((limb 2 b : Nat) : Int)); rw [b2]; simp only [World.cell?, h]; rfl
  · show _ = some (Value.int .u64 ((limb 3 b : Nat) : Int)); rw [b3]; simp only [World.cell?, h]; rfl
/-- W is a writer over curve c. -/
def Cur (w : World) (W c : Nat) : Prop := ∃ S v, Wrt w W S c v
theorem Cur.of {w : World} {W S c : Nat} {v : Value} (h : Wrt w W S c v) : Cur w W c := ⟨S, v, h⟩
theorem Cur.cell0 {w : World} {W c : Nat} (h : Cur w W c) : w.cell? ⟨W, 0, none⟩ = some (.int .i64 (c : Int)) := by
  obtain ⟨S, v, h⟩ := h
  exact h.cell0
theorem Cur.drew {w : World} {W c : Nat} (h : Cur w W c) : Cur w.drew W c := h
set_option maxHeartbeats 1000000 in
theorem take_any (a b c : Value) (w : World) : Calls Tryd.prog 81 #[a, b, c] w fun e w' => e = .returned (.tuple #[]) ∧ w' = w := by
  go_enter Tryd.func81, Tryd.ntmps81
  go_wp2
  exact bodyPost_end (v := .tuple #[]) (by simp [results, Tryd.results81, go_sem]) rfl ⟨rfl, rfl⟩
theorem own_shape {w : World} {base n : Nat} {v : Value} {xs : List Value} (h : w.ownsRow base 5 1 v n xs) : ∃ o k, v = .slice o n k ∧ ∀ a : Addr, o = some a → base ≤ a.block ∧ a.block < w.heap.size := by
  obtain ⟨_, h⟩ := h
  rcases h with ⟨rfl, h0⟩ | ⟨g, c, cur, rfl, hb, hg, _⟩
  · subst h0
    exact ⟨none, 0, rfl, fun a e => by cases e⟩
  · exact ⟨_, c, rfl, fun a e => by cases e; exact ⟨hb, (Array.getElem?_eq_some_iff.1 hg).1⟩⟩
theorem Bs.kept {w w' : World} {o : Option Addr} {n k g : Nat} {f : Nat → Nat} (h : Bs w (.slice o n k) n f) (hg : ∀ a, o = some a → a.block ≠ g) (hk : Kept g w w') : Bs w' (.slice o n k) n f := by
  rcases h with hn | ⟨a, c, hv, h1, h2, h3, h4⟩
  · exact Or.inl hn
  · cases hv
    refine Or.inr ⟨a, k, rfl, h1, h2, Nat.lt_of_lt_of_le h3 hk.size, fun i hi => ?_⟩
    have e := hk.block a.block h3 (hg a rfl)
    have q := h4 i hi
    rw [← q]
    have hb : (a.add i).block = a.block := by unfold Addr.add; split <;> rfl
    exact World.cell?_of_block (w := w) (by rw [hb]; exact e)
set_option maxHeartbeats 8000000 in
set_option maxRecDepth 100000 in
theorem say_any (W S c g : Nat) (f : Nat → Nat) (w : World) (hW : Wrt w W S c (.slice none 0 0)) (hB : BlkB w 5 g 32 f) :
    Calls Tryd.prog 14 #[.pointer (some ⟨W, 0, none⟩), .int .u8 2, .slice (some ⟨g, 0, none⟩) 32 32] w fun e w' => (e = .returned (.tuple #[]) ∧ ∃ (o : Option Addr) (k : Nat), Wrt w' W S c (.slice o 32 k) ∧ Bs w' (.slice o 32 k) 32 (f) ∧ Hid (∀ a : Addr, o = some a → w.heap.size ≤ a.block)) ∧ Kept W w w' := by
  obtain ⟨i0, hi, hz0, hz1, hz2⟩ := byteInfo
  have HI := (show Hid _ from hi); have HZ := (show Hid _ from And.intro hz0 (And.intro hz1 hz2)); clear hi hz0 hz1 hz2
  have HO : Hid (w.ownsRow w.heap.size 5 1 (.slice none 0 0) 0 []) := ⟨rfl, Or.inl ⟨rfl, rfl⟩⟩
  have HN : Hid (∀ j u, (bys f 32)[j]? = some u → w.cell? ((⟨g, 0, none⟩ : Addr).add j) = some u) := fun j u hj => by
    have hjn : j < 32 := by
      rcases Nat.lt_or_ge j 32 with h | h
      · exact h
      · rw [List.getElem?_eq_none (by rw [bys_len]; exact h)] at hj; cases hj
    rw [bys_get f 32 j hjn] at hj
    cases hj
    have hadd : (⟨g, 0, none⟩ : Addr).add j = ⟨g, j, none⟩ := by unfold Addr.add; split <;> simp_all
    rw [hadd]
    exact hB.cell j hjn
  have H1 : Hid (∀ u ∈ bys f 32, u.oneCell' = true) := fun u hu => by unfold bys at hu; obtain ⟨i, _, rfl⟩ := List.mem_map.mp hu; rfl
  have q2 := hW.cell2
  have kW := hW.lt
  go_enter Tryd.func14, Tryd.ntmps14
  go_wp2_with (first
    | (at_builtin; refine wpList_append_own _ rfl _ _ 43 rfl w.heap.size 5 i0 (.int .u8 0) 1 1 Tryd.underlying43 HI.out HZ.out.1 HZ.out.2.1 HZ.out.2.2 rfl (by decide) _ _ _ rfl HO.out ⟨g, 0, none⟩ 32 32 (bys f 32) rfl (by rw [bys_len]) HN.out H1.out (by decide) (by decide) (Nat.le_refl _) ?_)
    | go_in)
  intro v' w1 hown hgrow _
  have hb1 : Below w.heap.size w w1 := (Below.refl _ w).grown hgrow (Nat.le_refl _) (fun j hj => by cases hj)
  have hW1 := hW.belowAll hb1
  have hown : w1.ownsRow w.heap.size 5 1 v' 32 (bys f 32) := hown
  obtain ⟨o, k, rfl, hfr⟩ := own_shape hown
  have HB1 : Hid (Bs w1 (.slice o 32 k) 32 f) := own_Bs hown
  have HF : Hid (∀ a : Addr, o = some a → w.heap.size ≤ a.block) := fun a e => (hfr a e).1
  have hne : ∀ a : Addr, o = some a → a.block ≠ W := fun a e => by have := (hfr a e).1; omega
  clear hgrow hown hfr q2
  have q2 := hW1.cell2; have qf := hW1.frozen
  obtain ⟨w2, hw2, hW2, hk2⟩ := hW1.put (.slice o 32 k)
  have hB2 := HB1.out.kept hne hk2
  have hK2 := (Kept.ofBelow W hb1).trans hk2
  have p1 := hW2.cell1
  clear hb1 hW1 hk2 HB1 hne
  have HB2 := (show Hid (Bs w2 (.slice o 32 k) 32 f) from hB2)
  clear hB2
  go_upto_region 1 with fail
  clear hw2 q2 qf
  go_wp2_with fail
  refine (take_any _ _ _ w2).mono ?_
  rintro e w3 ⟨rfl, hw3⟩
  obtain rfl := hw3.symm
  go_wp2
  exact bodyPost_end (v := .tuple #[]) (by simp [results, Tryd.results14, go_sem]) rfl ⟨⟨rfl, o, k, hW2, HB2.out, HF.out⟩, hK2⟩
set_option maxHeartbeats 8000000 in
set_option maxRecDepth 100000 in
theorem scalar_in (u : World) (hg : Glob u) (W S c s x : Nat) (hs : s < 4) (hx : x < 115792089237316195423570985008687907853269984665640564039457584007913129639936) (hxo : bits BinOp.xor IntKind.i64 (c : Int) 1 = (s : Int)) (w : World) (hbu0 : Below u.heap.size u w) (hW : Wrt w W S c (.slice none 0 0)) :
    Calls Tryd.prog 10 #[.pointer (some ⟨W, 0, none⟩), .agg #[.int .u64 ((limb 0 (x) : Nat) : Int), .int .u64 ((limb 1 (x) : Nat) : Int), .int .u64 ((limb 2 (x) : Nat) : Int), .int .u64 ((limb 3 (x) : Nat) : Int)]] w fun e w' => (e = .returned (.tuple #[]) ∧ ∃ (o : Option Addr) (k : Nat), Wrt w' W S c (.slice o 32 k) ∧ Bs w' (.slice o 32 k) 32 (encB (x % modN s)) ∧ Hid (∀ a : Addr, o = some a → w.heap.size ≤ a.block)) ∧ Kept W w w' := by
  have HG : Hid (Glob u) := hg
  have HSL : Hid (∀ w, Calls Tryd.prog 16 #[.int .i64 (c : Int)] w fun e w' => e = .returned (.int .i64 (s : Int)) ∧ w' = w) := fun w => scalars_any c s hxo w
  have HEN : Hid (∀ w, Glob w → Calls Tryd.prog 15 #[.int .i64 (s : Int), .agg #[.int .u64 ((limb 0 (x) : Nat) : Int), .int .u64 ((limb 1 (x) : Nat) : Int), .int .u64 ((limb 2 (x) : Nat) : Int), .int .u64 ((limb 3 (x) : Nat) : Int)]] w fun e w' => ∃ g, e = .returned (.slice (some ⟨g, 0, none⟩) 32 32) ∧ w.heap.size ≤ g ∧ BlkB w' 5 g 32 (encB (x % modN s)) ∧ Below w.heap.size w w') := fun w hg => fEncode_any s x hs hx w hg
  obtain ⟨F, eF⟩ : ∃ F, F = encB (x % modN s) := ⟨_, rfl⟩
  rw [← eF] at HEN ⊢
  obtain ⟨w0, hw0⟩ : ∃ z : World, z = w.alloc (.cells #[.int .u64 ((limb 0 (x) : Nat) : Int), .int .u64 ((limb 1 (x) : Nat) : Int), .int .u64 ((limb 2 (x) : Nat) : Int), .int .u64 ((limb 3 (x) : Nat) : Int)] 29) := ⟨_, rfl⟩
  have hb0 : Below w.heap.size w w0 := by rw [hw0]; exact bAlloc (Below.refl _ _) _
  obtain ⟨N3, e3⟩ : ∃ N, N = w.heap.size := ⟨_, rfl⟩
  have b3 : Blk w0 29 N3 (fun i => limb i x) := by rw [hw0]; exact Blk.newAt _ _ _ (fun i => limb i x) e3
  have hW0 := hW.belowAll hb0
  have hbu := bStep hbu0 hb0
  have kW := hW.lt
  have n3W : N3 ≠ W := by omega
  clear hg hs hx hxo eF hbu0 hW
  go_enter Tryd.func10, Tryd.ntmps10
  go_upto_region 1 with fail
  rw [← hw0, ← e3]
  clear hw0 e3
  refine wp_region_Z (fun w' => Cur w' W c ∧ Blk w' 29 N3 (fun i => limb i x)) 99 (by kernel_rfl) ?_
  obtain ⟨wD, hD⟩ : ∃ x : World, x = w0.drew := ⟨_, rfl⟩
  rw [← hD]
  have hp0_0 : Cur wD W c := by rw [hD]; exact (Cur.of hW0).drew
  have hp1_0 : Blk wD 29 N3 (fun i => limb i x) := by rw [hD]; exact b3.drew
  have hlow0 : Below w0.heap.size w0 wD := by rw [hD]; exact (Below.refl _ _).drew
  clear hD
  refine wpZ_take (i := 0) (v := .pointer (some ⟨W, 0, none⟩)) 4 rfl rfl (by kernel_rfl) (by kernel_rfl) (by kernel_rfl) (Or.inr (by decide)) (fun _ _ _ h => h) (Or.inl ⟨by rfl, fun w hSw => by go_simp⟩) ⟨hp0_0, hp1_0⟩ ?_
  simp only [Act.put, List.setIfInBounds_toArray]
  dsimp only [List.set_cons_zero, List.set_cons_succ]
  refine wpZ_take (i := 1) (v := .pointer (some ⟨W, 0, none⟩)) 5 rfl rfl (by kernel_rfl) (by kernel_rfl) (by kernel_rfl) (Or.inr (by decide)) (fun _ _ _ h => h) (Or.inl ⟨by rfl, fun w hSw => by go_simp⟩) ⟨hp0_0, hp1_0⟩ ?_
  simp only [Act.put, List.setIfInBounds_toArray]
  dsimp only [List.set_cons_zero, List.set_cons_succ]
  refine wpZ_take (i := 2) (v := .pointer (some ⟨W, 0, none⟩)) 6 rfl rfl (by kernel_rfl) (by kernel_rfl) (by kernel_rfl) (Or.inr (by decide)) (fun _ _ _ h => h) (Or.inl ⟨by rfl, fun w hSw => by go_simp⟩) ⟨hp0_0, hp1_0⟩ ?_
  simp only [Act.put, List.setIfInBounds_toArray]
  dsimp only [List.set_cons_zero, List.set_cons_succ]
  refine wpZ_take (i := 3) (v := .pointer (some ⟨W, 0, none⟩)) 7 rfl rfl (by kernel_rfl) (by kernel_rfl) (by kernel_rfl) (Or.inr (by decide)) (fun _ _ _ h => h) (Or.inl ⟨by rfl, fun w hSw => by go_simp⟩) ⟨hp0_0, hp1_0⟩ ?_
  simp only [Act.put, List.setIfInBounds_toArray]
  dsimp only [List.set_cons_zero, List.set_cons_succ]
  refine wpZ_take (i := 4) (v := .pointer (some ⟨W, 0, none⟩)) 8 rfl rfl (by kernel_rfl) (by kernel_rfl) (by kernel_rfl) (Or.inr (by decide)) (fun _ _ _ h => h) (Or.inl ⟨by rfl, fun w hSw => by go_simp⟩) ⟨hp0_0, hp1_0⟩ ?_
  simp only [Act.put, List.setIfInBounds_toArray]
  dsimp only [List.set_cons_zero, List.set_cons_succ]
  refine wpZ_take (i := 5) (v := .int .i64 (c : Int)) 9 rfl rfl (by kernel_rfl) (by kernel_rfl) (by kernel_rfl) (Or.inr (by decide)) (fun _ _ _ h => h) (Or.inl ⟨by rfl, fun w hSw => by (have q0 := hSw.1.cell0; clear hSw; go_simp)⟩) ⟨hp0_0, hp1_0⟩ ?_
  simp only [Act.put, List.setIfInBounds_toArray]
  dsimp only [List.set_cons_zero, List.set_cons_succ]
  refine wpZ_take (i := 7) (v := .agg #[.int .u64 ((limb 0 (x) : Nat) : Int), .int .u64 ((limb 1 (x) : Nat) : Int), .int .u64 ((limb 2 (x) : Nat) : Int), .int .u64 ((limb 3 (x) : Nat) : Int)]) 11 rfl rfl (by kernel_rfl) (by kernel_rfl) (by kernel_rfl) (Or.inr (by decide)) (fun _ _ _ h => h) (Or.inl ⟨by rfl, fun w hSw => by (have qq := (hSw.2).cell; clear hSw; go_simp)⟩) ⟨hp0_0, hp1_0⟩ ?_
  simp only [Act.put, List.setIfInBounds_toArray]
  dsimp only [List.set_cons_zero, List.set_cons_succ]
  refine wpZ_one (i := 6) (by kernel_rfl) rfl (fun K hK => ?_)
  go_simp
  refine (HSL.out wD).mono ?_
  rintro e w6' ⟨rfl, hw6⟩
  obtain rfl := hw6.symm
  go_wp2_with fail
  refine hK.out _ _ (fun _ => ⟨hp0_0, hp1_0⟩) ?_
  clear hK K
  refine wpZ_one (i := 8) (by kernel_rfl) rfl (fun K hK => ?_)
  go_simp
  refine (HEN.out wD (HG.out.below (bStep hbu hlow0))).mono ?_
  rintro e w7 ⟨g, rfl, lg, bB7, hb7⟩
  have hW7 := (hW0.belowAll hlow0).belowAll hb7; have b37 := (hp1_0).belowAll hb7; have hlow7 := bStep hlow0 hb7
  go_wp2_with fail
  refine hK.out _ _ (fun _ => ⟨Cur.of hW7, b37⟩) ?_
  clear hK K
  refine wpZ_one (i := 9) (by kernel_rfl) rfl (fun K hK => ?_)
  go_simp
  refine (say_any W S c g _ w7 hW7 bB7).mono ?_
  rintro e w8 ⟨⟨rfl, o8, c8, hW8, hB8, HF8⟩, hk8⟩
  have b38 := b37.kept n3W hk8
  go_wp2_with fail
  refine hK.out _ _ (fun _ => ⟨Cur.of hW8, b38⟩) ?_
  clear hK K
  refine wpZ_done (by kernel_rfl) ?_ _
  have lw := hb0.size; have l7 := hlow7.size
  have hK8 := ((Kept.ofBelow W hb0).trans (Kept.ofBelow W hlow7)).trans hk8
  have HF9 : Hid (∀ a : Addr, o8 = some a → w.heap.size ≤ a.block) := fun a e => by have := HF8.out a e; omega
  clear b38 hk8 HF8 hlow7
  go_wp2
  exact bodyPost_end (v := .tuple #[]) (by simp [results, Tryd.results10, go_sem]) rfl ⟨⟨rfl, o8, c8, hW8, hB8, HF9.out⟩, hK8⟩
set_option maxHeartbeats 4000000 in
theorem bytes_in (W S c k : Nat) (o : Option Addr) (f : Nat → Nat) (w : World) (hW : Wrt w W S c (.slice o 32 k)) (hB : Bs w (.slice o 32 k) 32 f) :
    Calls Tryd.prog 11 #[.pointer (some ⟨W, 0, none⟩)] w fun e w' => (∃ (o' : Option Addr) (k' : Nat), e = .returned (.slice o' 32 k')) ∧ Below w.heap.size w w' := by
  rcases hB with ⟨h, h0⟩ | ⟨a, c', hv, h1, h2, h3, h4⟩
  · cases h0
  cases hv
  have HC := (show Hid _ from h4)
  have H3 := (show Hid _ from h3)
  have q2 := hW.cell2
  clear h4 h3
  go_enter Tryd.func11, Tryd.ntmps11
  go_wp2_with fail
  refine (clone_some 32 k a f (by decide) w H3.out HC.out).mono ?_
  rintro e w1 ⟨v, rfl, ho, hb⟩
  obtain ⟨o', k', rfl, _⟩ := own_shape ho
  clear ho q2
  go_wp2
  go_ret
  exact ⟨⟨o', k', rfl⟩, hb⟩

end Go.Proofs.YtcaljepfinfkbaaDoor
