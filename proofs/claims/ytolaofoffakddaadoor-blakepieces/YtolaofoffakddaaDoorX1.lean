/- The reference's mix, at any four places. -/
import Derived.Test.YtolaofoffakddaaDoorB2
import Derived.Test.YtolaofoffakddaaDoorRZ
namespace Go.Proofs.YtolaofoffakddaaDoor
open Go.RowKit

theorem BlkN.put {w : World} {t : TypeId} {b n : Nat} {f : Nat → Nat} (h : BlkN w t b n f) (k : Nat) (hk : k < n) (v : Nat) : BlkN (w.setCell ⟨b, k, none⟩ (.int .u64 ((v : Nat) : Int))) t b n (upd f k v) := h.set k hk v
theorem upd_self (f : Nat → Nat) (k v : Nat) : upd f k v k = v := if_pos rfl
theorem upd_ne (f : Nat → Nat) (k v i : Nat) (h : i ≠ k) : upd f k v i = f i := if_neg h
set_option maxHeartbeats 8000000 in
set_option maxRecDepth 20000 in
theorem rmix_walk (f : Nat → Nat) (a b c d x y s1 a1 t1 d1 c1 u1 b1 s2 a2 t2 d2 c2 u2 b2 va vb vc vd : Nat) (w : World)
    (ha : a < 16) (hb : b < 16) (hc : c < 16) (hd : d < 16) (ab : a ≠ b) (ac : a ≠ c) (ad : a ≠ d) (bc : b ≠ c) (bd : b ≠ d) (cd : c ≠ d)
    (fa : f a = va) (fb : f b = vb) (fc : f c = vc) (fd : f d = vd)
    (e1 : IntKind.u64.wrap ((va : Int) + (vb : Int)) = (s1 : Int)) (e2 : IntKind.u64.wrap ((s1 : Int) + (x : Int)) = (a1 : Int)) (e3 : bits BinOp.xor IntKind.u64 (vd : Int) (a1 : Int) = (t1 : Int))
    (C1 : ∀ w, Calls Tryd.prog 25 #[.int .u64 (t1 : Int), .int .u64 32] w fun e w' => e = .returned (.int .u64 (d1 : Int)) ∧ w' = w)
    (e4 : IntKind.u64.wrap ((vc : Int) + (d1 : Int)) = (c1 : Int)) (e5 : bits BinOp.xor IntKind.u64 (vb : Int) (c1 : Int) = (u1 : Int))
    (C2 : ∀ w, Calls Tryd.prog 25 #[.int .u64 (u1 : Int), .int .u64 24] w fun e w' => e = .returned (.int .u64 (b1 : Int)) ∧ w' = w)
    (e6 : IntKind.u64.wrap ((a1 : Int) + (b1 : Int)) = (s2 : Int)) (e7 : IntKind.u64.wrap ((s2 : Int) + (y : Int)) = (a2 : Int)) (e8 : bits BinOp.xor IntKind.u64 (d1 : Int) (a2 : Int) = (t2 : Int))
    (C3 : ∀ w, Calls Tryd.prog 25 #[.int .u64 (t2 : Int), .int .u64 16] w fun e w' => e = .returned (.int .u64 (d2 : Int)) ∧ w' = w)
    (e9 : IntKind.u64.wrap ((c1 : Int) + (d2 : Int)) = (c2 : Int)) (e10 : bits BinOp.xor IntKind.u64 (b1 : Int) (c2 : Int) = (u2 : Int))
    (C4 : ∀ w, Calls Tryd.prog 25 #[.int .u64 (u2 : Int), .int .u64 63] w fun e w' => e = .returned (.int .u64 (b2 : Int)) ∧ w' = w) (g : Nat → Nat)
    (hg : ∀ i, g i = if i = a then a2 else if i = b then b2 else if i = c then c2 else if i = d then d2 else f i) :
    Calls Tryd.prog 22 #[.agg #[.int .u64 ((f 0 : Nat) : Int), .int .u64 ((f 1 : Nat) : Int), .int .u64 ((f 2 : Nat) : Int), .int .u64 ((f 3 : Nat) : Int), .int .u64 ((f 4 : Nat) : Int), .int .u64 ((f 5 : Nat) : Int), .int .u64 ((f 6 : Nat) : Int), .int .u64 ((f 7 : Nat) : Int), .int .u64 ((f 8 : Nat) : Int), .int .u64 ((f 9 : Nat) : Int), .int .u64 ((f 10 : Nat) : Int), .int .u64 ((f 11 : Nat) : Int), .int .u64 ((f 12 : Nat) : Int), .int .u64 ((f 13 : Nat) : Int), .int .u64 ((f 14 : Nat) : Int), .int .u64 ((f 15 : Nat) : Int)], .int .i64 (a : Int), .int .i64 (b : Int), .int .i64 (c : Int), .int .i64 (d : Int), .int .u64 (x : Int), .int .u64 (y : Int)] w fun e w' => e = .returned (.agg #[.int .u64 ((g 0 : Nat) : Int), .int .u64 ((g 1 : Nat) : Int), .int .u64 ((g 2 : Nat) : Int), .int .u64 ((g 3 : Nat) : Int), .int .u64 ((g 4 : Nat) : Int), .int .u64 ((g 5 : Nat) : Int), .int .u64 ((g 6 : Nat) : Int), .int .u64 ((g 7 : Nat) : Int), .int .u64 ((g 8 : Nat) : Int), .int .u64 ((g 9 : Nat) : Int), .int .u64 ((g 10 : Nat) : Int), .int .u64 ((g 11 : Nat) : Int), .int .u64 ((g 12 : Nat) : Int), .int .u64 ((g 13 : Nat) : Int), .int .u64 ((g 14 : Nat) : Int), .int .u64 ((g 15 : Nat) : Int)]) ∧ Below w.heap.size w w' := by
  have HG : Hid (∀ i, g i = upd (upd (upd (upd (upd (upd (upd (upd f a a1) d d1) c c1) b b1) a a2) d d2) c c2) b b2 i) := fun i => by rw [upd_four f a b c d a1 d1 c1 b1 a2 d2 c2 b2 ab ac ad bc bd cd i]; exact hg i
  clear hg
  have Ha : Hid (a < 16) := ha; have Hb : Hid (b < 16) := hb; have Hc : Hid (c < 16) := hc; have Hd : Hid (d < 16) := hd
  have Fa := (show Hid _ from fa); have Fb := (show Hid _ from fb); have Fc := (show Hid _ from fc); have Fd := (show Hid _ from fd)
  have AB := (show Hid _ from ab); have AC := (show Hid _ from ac); have AD := (show Hid _ from ad); have BC := (show Hid _ from bc); have BD := (show Hid _ from bd); have CD := (show Hid _ from cd)
  have ia0 : (0 : Int) ≤ (a : Int) := by omega
  have ia1 : (a : Int) < 16 := by omega
  have ib0 : (0 : Int) ≤ (b : Int) := by omega
  have ib1 : (b : Int) < 16 := by omega
  have ic0 : (0 : Int) ≤ (c : Int) := by omega
  have ic1 : (c : Int) < 16 := by omega
  have id0 : (0 : Int) ≤ (d : Int) := by omega
  have id1 : (d : Int) < 16 := by omega
  clear ha hb hc hd fa fb fc fd ab ac ad bc bd cd
  go_enter Tryd.func22, Tryd.ntmps22
  go_upto_region 1 with fail
  obtain ⟨w0, hw0⟩ : ∃ w0 : World, w0 = (w.alloc (.cells #[.int .u64 ((f 0 : Nat) : Int), .int .u64 ((f 1 : Nat) : Int), .int .u64 ((f 2 : Nat) : Int), .int .u64 ((f 3 : Nat) : Int), .int .u64 ((f 4 : Nat) : Int), .int .u64 ((f 5 : Nat) : Int), .int .u64 ((f 6 : Nat) : Int), .int .u64 ((f 7 : Nat) : Int), .int .u64 ((f 8 : Nat) : Int), .int .u64 ((f 9 : Nat) : Int), .int .u64 ((f 10 : Nat) : Int), .int .u64 ((f 11 : Nat) : Int), .int .u64 ((f 12 : Nat) : Int), .int .u64 ((f 13 : Nat) : Int), .int .u64 ((f 14 : Nat) : Int), .int .u64 ((f 15 : Nat) : Int)] 50)).alloc (.cells #[.int .u64 0, .int .u64 0, .int .u64 0, .int .u64 0, .int .u64 0, .int .u64 0, .int .u64 0, .int .u64 0, .int .u64 0, .int .u64 0, .int .u64 0, .int .u64 0, .int .u64 0, .int .u64 0, .int .u64 0, .int .u64 0] 50) := ⟨_, rfl⟩
  have bV0 : BlkN w0 50 w.heap.size 16 f := by rw [hw0]; exact (BlkN.newAt _ _ _ 16 f _ rfl rfl (case16 rfl rfl rfl rfl rfl rfl rfl rfl rfl rfl rfl rfl rfl rfl rfl rfl)).alloc _
  have bR0 : BlkN w0 50 (w.heap.size + 1) 16 (fun _ => 0) := by rw [hw0]; exact BlkN.newAt _ _ _ 16 (fun _ => 0) _ (by simp) rfl (case16 rfl rfl rfl rfl rfl rfl rfl rfl rfl rfl rfl rfl rfl rfl rfl rfl)
  have hb0 : Below w.heap.size w w0 := by rw [hw0]; exact bAlloc ((Below.refl _ _).alloc (Nat.le_refl _) _) _
  rw [← hw0]
  clear hw0
  obtain ⟨V, hV⟩ : ∃ V, V = w.heap.size := ⟨_, rfl⟩
  rw [← hV] at bV0 bR0 hb0 ⊢
  have HVV := (show Hid _ from hV); clear hV
  have fV : ∀ o, w0.frozen? ⟨V, o, none⟩ = false := bV0.frozen
  have qa : w0.cell? ⟨V, a, none⟩ = some (.int .u64 (va : Int)) := by rw [bV0.cell a Ha.out, Fa.out]
  have qb : w0.cell? ⟨V, b, none⟩ = some (.int .u64 (vb : Int)) := by rw [bV0.cell b Hb.out, Fb.out]
  go_region
  obtain ⟨w1, hw1⟩ : ∃ w1 : World, w1 = (w0.setCell ⟨V, a, none⟩ (.int .u64 (a1 : Int))).drew := ⟨_, rfl⟩
  have bV1 : BlkN w1 50 V 16 (upd f a a1) := by rw [hw1]; exact (bV0.put a Ha.out a1).drew
  have bR1 : BlkN w1 50 (V + 1) 16 (fun _ => 0) := by rw [hw1]; exact (bR0.other (by dsimp only; omega) _).drew
  have hb1 : Below V w w1 := by rw [hw1]; exact (hb0.setCell (Nat.le_refl _) _).drew
  rw [← hw1]
  clear hw1 bV0 bR0 hb0 fV qa qb
  go_upto_region 2 with fail
  have fV : ∀ o, w1.frozen? ⟨V, o, none⟩ = false := bV1.frozen
  go_cut [] (fun wx => Below V w wx ∧ BlkN wx 50 V 16 (upd (upd f a a1) d d1) ∧ BlkN wx 50 (V + 1) 16 (fun _ => 0))
  case first =>
    have HS0 : Hid (BlkN w1.drew 50 V 16 (upd f a a1)) := bV1.drew
    have HR0 : Hid (BlkN w1.drew 50 (V + 1) 16 (fun _ => 0)) := bR1.drew
    have HB0 : Hid (Below V w w1.drew) := hb1.drew
    have fD : ∀ o, w1.drew.frozen? ⟨V, o, none⟩ = false := fV
    clear bV1 bR1 hb1 fV
    refine wp_region_Z (fun w' => BlkN w' 50 V 16 (upd f a a1)) 10 (by kernel_rfl) ?_
    refine wpZ_take (i := 0) (v := .int .i64 (d : Int)) 26 rfl rfl (by kernel_rfl) (by kernel_rfl) (by kernel_rfl) (by kernel_rfl) (fun _ _ _ h => h) (Or.inl ⟨by rfl, fun w hSw => by go_simp⟩) HS0.out ?_
    simp only [Act.put, List.setIfInBounds_toArray, List.set_cons_zero, List.set_cons_succ]
    refine wpZ_take (i := 1) (v := .int .i64 (d : Int)) 27 rfl rfl (by kernel_rfl) (by kernel_rfl) (by kernel_rfl) (by kernel_rfl) (fun _ _ _ h => h) (Or.inl ⟨by rfl, fun w hSw => by go_simp⟩) HS0.out ?_
    simp only [Act.put, List.setIfInBounds_toArray, List.set_cons_zero, List.set_cons_succ]
    refine wpZ_take (i := 2) (v := .pointer (some ⟨V, d, none⟩)) 28 rfl rfl (by kernel_rfl) (by kernel_rfl) (by kernel_rfl) (by kernel_rfl) (fun _ _ _ h => h) (Or.inl ⟨by rfl, fun w hSw => by go_simp⟩) HS0.out ?_
    simp only [Act.put, List.setIfInBounds_toArray, List.set_cons_zero, List.set_cons_succ]
    refine wpZ_take (i := 3) (v := .int .u64 (vd : Int)) 29 rfl rfl (by kernel_rfl) (by kernel_rfl) (by kernel_rfl) (by kernel_rfl) (fun _ _ _ h => h) (Or.inl ⟨by rfl, fun w hSw => by (have qq := hSw.cell d Hd.out; rw [upd_ne _ _ _ _ (Ne.symm AD.out), Fd.out] at qq; clear hSw; go_simp)⟩) HS0.out ?_
    simp only [Act.put, List.setIfInBounds_toArray, List.set_cons_zero, List.set_cons_succ]
    refine wpZ_take (i := 4) (v := .int .i64 (a : Int)) 30 rfl rfl (by kernel_rfl) (by kernel_rfl) (by kernel_rfl) (by kernel_rfl) (fun _ _ _ h => h) (Or.inl ⟨by rfl, fun w hSw => by go_simp⟩) HS0.out ?_
    simp only [Act.put, List.setIfInBounds_toArray, List.set_cons_zero, List.set_cons_succ]
    refine wpZ_take (i := 5) (v := .pointer (some ⟨V, a, none⟩)) 31 rfl rfl (by kernel_rfl) (by kernel_rfl) (by kernel_rfl) (by kernel_rfl) (fun _ _ _ h => h) (Or.inl ⟨by rfl, fun w hSw => by go_simp⟩) HS0.out ?_
    simp only [Act.put, List.setIfInBounds_toArray, List.set_cons_zero, List.set_cons_succ]
    refine wpZ_take (i := 6) (v := .int .u64 (a1 : Int)) 32 rfl rfl (by kernel_rfl) (by kernel_rfl) (by kernel_rfl) (by kernel_rfl) (fun _ _ _ h => h) (Or.inl ⟨by rfl, fun w hSw => by (have qq := hSw.cell a Ha.out; rw [upd_self _ _ _] at qq; clear hSw; go_simp)⟩) HS0.out ?_
    simp only [Act.put, List.setIfInBounds_toArray, List.set_cons_zero, List.set_cons_succ]
    refine wpZ_take (i := 7) (v := .int .u64 (t1 : Int)) 33 rfl rfl (by kernel_rfl) (by kernel_rfl) (by kernel_rfl) (by kernel_rfl) (fun _ _ _ h => h) (Or.inl ⟨by rfl, fun w hSw => by go_simp⟩) HS0.out ?_
    simp only [Act.put, List.setIfInBounds_toArray, List.set_cons_zero, List.set_cons_succ]
    refine wpZ_one (i := 8) (by kernel_rfl) rfl (fun K hK => ?_)
    go_simp
    refine (C1 _).mono ?_
    rintro e w1 ⟨rfl, hw1⟩
    subst hw1
    go_wp2_with fail
    refine hK.out _ _ (fun _ => HS0.out) ?_
    clear hK K
    refine wpZ_one (i := 9) (by kernel_rfl) rfl (fun K hK => ?_)
    go_simp
    refine hK.out _ _ (fun _ => HS0.out) ?_
    clear hK K
    have qs : w1.cell? ⟨V, d, none⟩ = _ := HS0.out.cell d Hd.out
    refine wpZ_one (i := 10) (by kernel_rfl) rfl (fun K hK => ?_)
    go_simp
    refine hK.out _ _ (fun h => absurd rfl h) ?_
    clear hK K
    refine wpZ_done (by kernel_rfl) ?_ _
    go_wp2_with fail
    go_meet
    exact ⟨HB0.out.setCell (Nat.le_refl _) _, HS0.out.put d Hd.out d1, HR0.out.other (by dsimp only; omega) _⟩
  obtain ⟨hb2, bV2, bR2⟩ := hcut
  clear bV1 bR1 hb1 fV
  obtain ⟨w2, hw2⟩ : ∃ w2, w2 = wc := ⟨_, rfl⟩
  rw [← hw2] at hb2 bV2 bR2 ⊢
  clear hw2
  go_upto_region 3 with fail
  have fV : ∀ o, w2.frozen? ⟨V, o, none⟩ = false := bV2.frozen
  have qc : w2.cell? ⟨V, c, none⟩ = some (.int .u64 (vc : Int)) := by rw [bV2.cell c Hc.out, upd_ne _ _ _ _ CD.out, upd_ne _ _ _ _ (Ne.symm AC.out), Fc.out]
  have qd : w2.cell? ⟨V, d, none⟩ = some (.int .u64 (d1 : Int)) := by rw [bV2.cell d Hd.out, upd_self _ _ _]
  go_region
  obtain ⟨w3, hw3⟩ : ∃ w3 : World, w3 = (w2.setCell ⟨V, c, none⟩ (.int .u64 (c1 : Int))).drew := ⟨_, rfl⟩
  have bV3 : BlkN w3 50 V 16 (upd (upd (upd f a a1) d d1) c c1) := by rw [hw3]; exact (bV2.put c Hc.out c1).drew
  have bR3 : BlkN w3 50 (V + 1) 16 (fun _ => 0) := by rw [hw3]; exact (bR2.other (by dsimp only; omega) _).drew
  have hb3 : Below V w w3 := by rw [hw3]; exact (hb2.setCell (Nat.le_refl _) _).drew
  rw [← hw3]
  clear hw3 bV2 bR2 hb2 fV qc qd
  go_upto_region 4 with fail
  have fV : ∀ o, w3.frozen? ⟨V, o, none⟩ = false := bV3.frozen
  go_cut [] (fun wx => Below V w wx ∧ BlkN wx 50 V 16 (upd (upd (upd (upd f a a1) d d1) c c1) b b1) ∧ BlkN wx 50 (V + 1) 16 (fun _ => 0))
  case first =>
    have HS0 : Hid (BlkN w3.drew 50 V 16 (upd (upd (upd f a a1) d d1) c c1)) := bV3.drew
    have HR0 : Hid (BlkN w3.drew 50 (V + 1) 16 (fun _ => 0)) := bR3.drew
    have HB0 : Hid (Below V w w3.drew) := hb3.drew
    have fD : ∀ o, w3.drew.frozen? ⟨V, o, none⟩ = false := fV
    clear bV3 bR3 hb3 fV
    refine wp_region_Z (fun w' => BlkN w' 50 V 16 (upd (upd (upd f a a1) d d1) c c1)) 10 (by kernel_rfl) ?_
    refine wpZ_take (i := 0) (v := .int .i64 (b : Int)) 45 rfl rfl (by kernel_rfl) (by kernel_rfl) (by kernel_rfl) (by kernel_rfl) (fun _ _ _ h => h) (Or.inl ⟨by rfl, fun w hSw => by go_simp⟩) HS0.out ?_
    simp only [Act.put, List.setIfInBounds_toArray, List.set_cons_zero, List.set_cons_succ]
    refine wpZ_take (i := 1) (v := .int .i64 (b : Int)) 46 rfl rfl (by kernel_rfl) (by kernel_rfl) (by kernel_rfl) (by kernel_rfl) (fun _ _ _ h => h) (Or.inl ⟨by rfl, fun w hSw => by go_simp⟩) HS0.out ?_
    simp only [Act.put, List.setIfInBounds_toArray, List.set_cons_zero, List.set_cons_succ]
    refine wpZ_take (i := 2) (v := .pointer (some ⟨V, b, none⟩)) 47 rfl rfl (by kernel_rfl) (by kernel_rfl) (by kernel_rfl) (by kernel_rfl) (fun _ _ _ h => h) (Or.inl ⟨by rfl, fun w hSw => by go_simp⟩) HS0.out ?_
    simp only [Act.put, List.setIfInBounds_toArray, List.set_cons_zero, List.set_cons_succ]
    refine wpZ_take (i := 3) (v := .int .u64 (vb : Int)) 48 rfl rfl (by kernel_rfl) (by kernel_rfl) (by kernel_rfl) (by kernel_rfl) (fun _ _ _ h => h) (Or.inl ⟨by rfl, fun w hSw => by (have qq := hSw.cell b Hb.out; rw [upd_ne _ _ _ _ BC.out, upd_ne _ _ _ _ BD.out, upd_ne _ _ _ _ (Ne.symm AB.out), Fb.out] at qq; clear hSw; go_simp)⟩) HS0.out ?_
    simp only [Act.put, List.setIfInBounds_toArray, List.set_cons_zero, List.set_cons_succ]
    refine wpZ_take (i := 4) (v := .int .i64 (c : Int)) 49 rfl rfl (by kernel_rfl) (by kernel_rfl) (by kernel_rfl) (by kernel_rfl) (fun _ _ _ h => h) (Or.inl ⟨by rfl, fun w hSw => by go_simp⟩) HS0.out ?_
    simp only [Act.put, List.setIfInBounds_toArray, List.set_cons_zero, List.set_cons_succ]
    refine wpZ_take (i := 5) (v := .pointer (some ⟨V, c, none⟩)) 50 rfl rfl (by kernel_rfl) (by kernel_rfl) (by kernel_rfl) (by kernel_rfl) (fun _ _ _ h => h) (Or.inl ⟨by rfl, fun w hSw => by go_simp⟩) HS0.out ?_
    simp only [Act.put, List.setIfInBounds_toArray, List.set_cons_zero, List.set_cons_succ]
    refine wpZ_take (i := 6) (v := .int .u64 (c1 : Int)) 51 rfl rfl (by kernel_rfl) (by kernel_rfl) (by kernel_rfl) (by kernel_rfl) (fun _ _ _ h => h) (Or.inl ⟨by rfl, fun w hSw => by (have qq := hSw.cell c Hc.out; rw [upd_self _ _ _] at qq; clear hSw; go_simp)⟩) HS0.out ?_
    simp only [Act.put, List.setIfInBounds_toArray, List.set_cons_zero, List.set_cons_succ]
    refine wpZ_take (i := 7) (v := .int .u64 (u1 : Int)) 52 rfl rfl (by kernel_rfl) (by kernel_rfl) (by kernel_rfl) (by kernel_rfl) (fun _ _ _ h => h) (Or.inl ⟨by rfl, fun w hSw => by go_simp⟩) HS0.out ?_
    simp only [Act.put, List.setIfInBounds_toArray, List.set_cons_zero, List.set_cons_succ]
    refine wpZ_one (i := 8) (by kernel_rfl) rfl (fun K hK => ?_)
    go_simp
    refine (C2 _).mono ?_
    rintro e w1 ⟨rfl, hw1⟩
    subst hw1
    go_wp2_with fail
    refine hK.out _ _ (fun _ => HS0.out) ?_
    clear hK K
    refine wpZ_one (i := 9) (by kernel_rfl) rfl (fun K hK => ?_)
    go_simp
    refine hK.out _ _ (fun _ => HS0.out) ?_
    clear hK K
    have qs : w3.cell? ⟨V, b, none⟩ = _ := HS0.out.cell b Hb.out
    refine wpZ_one (i := 10) (by kernel_rfl) rfl (fun K hK => ?_)
    go_simp
    refine hK.out _ _ (fun h => absurd rfl h) ?_
    clear hK K
    refine wpZ_done (by kernel_rfl) ?_ _
    go_wp2_with fail
    go_meet
    exact ⟨HB0.out.setCell (Nat.le_refl _) _, HS0.out.put b Hb.out b1, HR0.out.other (by dsimp only; omega) _⟩
  obtain ⟨hb4, bV4, bR4⟩ := hcut
  clear bV3 bR3 hb3 fV
  obtain ⟨w4, hw4⟩ : ∃ w4, w4 = wc := ⟨_, rfl⟩
  rw [← hw4] at hb4 bV4 bR4 ⊢
  clear hw4
  go_upto_region 5 with fail
  have fV : ∀ o, w4.frozen? ⟨V, o, none⟩ = false := bV4.frozen
  have qa : w4.cell? ⟨V, a, none⟩ = some (.int .u64 (a1 : Int)) := by rw [bV4.cell a Ha.out, upd_ne _ _ _ _ AB.out, upd_ne _ _ _ _ AC.out, upd_ne _ _ _ _ AD.out, upd_self _ _ _]
  have qb : w4.cell? ⟨V, b, none⟩ = some (.int .u64 (b1 : Int)) := by rw [bV4.cell b Hb.out, upd_self _ _ _]
  go_region
  obtain ⟨w5, hw5⟩ : ∃ w5 : World, w5 = (w4.setCell ⟨V, a, none⟩ (.int .u64 (a2 : Int))).drew := ⟨_, rfl⟩
  have bV5 : BlkN w5 50 V 16 (upd (upd (upd (upd (upd f a a1) d d1) c c1) b b1) a a2) := by rw [hw5]; exact (bV4.put a Ha.out a2).drew
  have bR5 : BlkN w5 50 (V + 1) 16 (fun _ => 0) := by rw [hw5]; exact (bR4.other (by dsimp only; omega) _).drew
  have hb5 : Below V w w5 := by rw [hw5]; exact (hb4.setCell (Nat.le_refl _) _).drew
  rw [← hw5]
  clear hw5 bV4 bR4 hb4 fV qa qb
  go_upto_region 6 with fail
  have fV : ∀ o, w5.frozen? ⟨V, o, none⟩ = false := bV5.frozen
  go_cut [] (fun wx => Below V w wx ∧ BlkN wx 50 V 16 (upd (upd (upd (upd (upd (upd f a a1) d d1) c c1) b b1) a a2) d d2) ∧ BlkN wx 50 (V + 1) 16 (fun _ => 0))
  case first =>
    have HS0 : Hid (BlkN w5.drew 50 V 16 (upd (upd (upd (upd (upd f a a1) d d1) c c1) b b1) a a2)) := bV5.drew
    have HR0 : Hid (BlkN w5.drew 50 (V + 1) 16 (fun _ => 0)) := bR5.drew
    have HB0 : Hid (Below V w w5.drew) := hb5.drew
    have fD : ∀ o, w5.drew.frozen? ⟨V, o, none⟩ = false := fV
    clear bV5 bR5 hb5 fV
    refine wp_region_Z (fun w' => BlkN w' 50 V 16 (upd (upd (upd (upd (upd f a a1) d d1) c c1) b b1) a a2)) 10 (by kernel_rfl) ?_
    refine wpZ_take (i := 0) (v := .int .i64 (d : Int)) 66 rfl rfl (by kernel_rfl) (by kernel_rfl) (by kernel_rfl) (by kernel_rfl) (fun _ _ _ h => h) (Or.inl ⟨by rfl, fun w hSw => by go_simp⟩) HS0.out ?_
    simp only [Act.put, List.setIfInBounds_toArray, List.set_cons_zero, List.set_cons_succ]
    refine wpZ_take (i := 1) (v := .int .i64 (d : Int)) 67 rfl rfl (by kernel_rfl) (by kernel_rfl) (by kernel_rfl) (by kernel_rfl) (fun _ _ _ h => h) (Or.inl ⟨by rfl, fun w hSw => by go_simp⟩) HS0.out ?_
    simp only [Act.put, List.setIfInBounds_toArray, List.set_cons_zero, List.set_cons_succ]
    refine wpZ_take (i := 2) (v := .pointer (some ⟨V, d, none⟩)) 68 rfl rfl (by kernel_rfl) (by kernel_rfl) (by kernel_rfl) (by kernel_rfl) (fun _ _ _ h => h) (Or.inl ⟨by rfl, fun w hSw => by go_simp⟩) HS0.out ?_
    simp only [Act.put, List.setIfInBounds_toArray, List.set_cons_zero, List.set_cons_succ]
    refine wpZ_take (i := 3) (v := .int .u64 (d1 : Int)) 69 rfl rfl (by kernel_rfl) (by kernel_rfl) (by kernel_rfl) (by kernel_rfl) (fun _ _ _ h => h) (Or.inl ⟨by rfl, fun w hSw => by (have qq := hSw.cell d Hd.out; rw [upd_ne _ _ _ _ (Ne.symm AD.out), upd_ne _ _ _ _ (Ne.symm BD.out), upd_ne _ _ _ _ (Ne.symm CD.out), upd_self _ _ _] at qq; clear hSw; go_simp)⟩) HS0.out ?_
    simp only [Act.put, List.setIfInBounds_toArray, List.set_cons_zero, List.set_cons_succ]
    refine wpZ_take (i := 4) (v := .int .i64 (a : Int)) 70 rfl rfl (by kernel_rfl) (by kernel_rfl) (by kernel_rfl) (by kernel_rfl) (fun _ _ _ h => h) (Or.inl ⟨by rfl, fun w hSw => by go_simp⟩) HS0.out ?_
    simp only [Act.put, List.setIfInBounds_toArray, List.set_cons_zero, List.set_cons_succ]
    refine wpZ_take (i := 5) (v := .pointer (some ⟨V, a, none⟩)) 71 rfl rfl (by kernel_rfl) (by kernel_rfl) (by kernel_rfl) (by kernel_rfl) (fun _ _ _ h => h) (Or.inl ⟨by rfl, fun w hSw => by go_simp⟩) HS0.out ?_
    simp only [Act.put, List.setIfInBounds_toArray, List.set_cons_zero, List.set_cons_succ]
    refine wpZ_take (i := 6) (v := .int .u64 (a2 : Int)) 72 rfl rfl (by kernel_rfl) (by kernel_rfl) (by kernel_rfl) (by kernel_rfl) (fun _ _ _ h => h) (Or.inl ⟨by rfl, fun w hSw => by (have qq := hSw.cell a Ha.out; rw [upd_self _ _ _] at qq; clear hSw; go_simp)⟩) HS0.out ?_
    simp only [Act.put, List.setIfInBounds_toArray, List.set_cons_zero, List.set_cons_succ]
    refine wpZ_take (i := 7) (v := .int .u64 (t2 : Int)) 73 rfl rfl (by kernel_rfl) (by kernel_rfl) (by kernel_rfl) (by kernel_rfl) (fun _ _ _ h => h) (Or.inl ⟨by rfl, fun w hSw => by go_simp⟩) HS0.out ?_
    simp only [Act.put, List.setIfInBounds_toArray, List.set_cons_zero, List.set_cons_succ]
    refine wpZ_one (i := 8) (by kernel_rfl) rfl (fun K hK => ?_)
    go_simp
    refine (C3 _).mono ?_
    rintro e w1 ⟨rfl, hw1⟩
    subst hw1
    go_wp2_with fail
    refine hK.out _ _ (fun _ => HS0.out) ?_
    clear hK K
    refine wpZ_one (i := 9) (by kernel_rfl) rfl (fun K hK => ?_)
    go_simp
    refine hK.out _ _ (fun _ => HS0.out) ?_
    clear hK K
    have qs : w5.cell? ⟨V, d, none⟩ = _ := HS0.out.cell d Hd.out
    refine wpZ_one (i := 10) (by kernel_rfl) rfl (fun K hK => ?_)
    go_simp
    refine hK.out _ _ (fun h => absurd rfl h) ?_
    clear hK K
    refine wpZ_done (by kernel_rfl) ?_ _
    go_wp2_with fail
    go_meet
    exact ⟨HB0.out.setCell (Nat.le_refl _) _, HS0.out.put d Hd.out d2, HR0.out.other (by dsimp only; omega) _⟩
  obtain ⟨hb6, bV6, bR6⟩ := hcut
  clear bV5 bR5 hb5 fV
  obtain ⟨w6, hw6⟩ : ∃ w6, w6 = wc := ⟨_, rfl⟩
  rw [← hw6] at hb6 bV6 bR6 ⊢
  clear hw6
  go_upto_region 7 with fail
  have fV : ∀ o, w6.frozen? ⟨V, o, none⟩ = false := bV6.frozen
  have qc : w6.cell? ⟨V, c, none⟩ = some (.int .u64 (c1 : Int)) := by rw [bV6.cell c Hc.out, upd_ne _ _ _ _ CD.out, upd_ne _ _ _ _ (Ne.symm AC.out), upd_ne _ _ _ _ (Ne.symm BC.out), upd_self _ _ _]
  have qd : w6.cell? ⟨V, d, none⟩ = some (.int .u64 (d2 : Int)) := by rw [bV6.cell d Hd.out, upd_self _ _ _]
  go_region
  obtain ⟨w7, hw7⟩ : ∃ w7 : World, w7 = (w6.setCell ⟨V, c, none⟩ (.int .u64 (c2 : Int))).drew := ⟨_, rfl⟩
  have bV7 : BlkN w7 50 V 16 (upd (upd (upd (upd (upd (upd (upd f a a1) d d1) c c1) b b1) a a2) d d2) c c2) := by rw [hw7]; exact (bV6.put c Hc.out c2).drew
  have bR7 : BlkN w7 50 (V + 1) 16 (fun _ => 0) := by rw [hw7]; exact (bR6.other (by dsimp only; omega) _).drew
  have hb7 : Below V w w7 := by rw [hw7]; exact (hb6.setCell (Nat.le_refl _) _).drew
  rw [← hw7]
  clear hw7 bV6 bR6 hb6 fV qc qd
  go_upto_region 8 with fail
  have fV : ∀ o, w7.frozen? ⟨V, o, none⟩ = false := bV7.frozen
  go_cut [] (fun wx => Below V w wx ∧ BlkN wx 50 V 16 (upd (upd (upd (upd (upd (upd (upd (upd f a a1) d d1) c c1) b b1) a a2) d d2) c c2) b b2) ∧ BlkN wx 50 (V + 1) 16 (fun _ => 0))
  case first =>
    have HS0 : Hid (BlkN w7.drew 50 V 16 (upd (upd (upd (upd (upd (upd (upd f a a1) d d1) c c1) b b1) a a2) d d2) c c2)) := bV7.drew
    have HR0 : Hid (BlkN w7.drew 50 (V + 1) 16 (fun _ => 0)) := bR7.drew
    have HB0 : Hid (Below V w w7.drew) := hb7.drew
    have fD : ∀ o, w7.drew.frozen? ⟨V, o, none⟩ = false := fV
    clear bV7 bR7 hb7 fV
    refine wp_region_Z (fun w' => BlkN w' 50 V 16 (upd (upd (upd (upd (upd (upd (upd f a a1) d d1) c c1) b b1) a a2) d d2) c c2)) 10 (by kernel_rfl) ?_
    refine wpZ_take (i := 0) (v := .int .i64 (b : Int)) 85 rfl rfl (by kernel_rfl) (by kernel_rfl) (by kernel_rfl) (by kernel_rfl) (fun _ _ _ h => h) (Or.inl ⟨by rfl, fun w hSw => by go_simp⟩) HS0.out ?_
    simp only [Act.put, List.setIfInBounds_toArray, List.set_cons_zero, List.set_cons_succ]
    refine wpZ_take (i := 1) (v := .int .i64 (b : Int)) 86 rfl rfl (by kernel_rfl) (by kernel_rfl) (by kernel_rfl) (by kernel_rfl) (fun _ _ _ h => h) (Or.inl ⟨by rfl, fun w hSw => by go_simp⟩) HS0.out ?_
    simp only [Act.put, List.setIfInBounds_toArray, List.set_cons_zero, List.set_cons_succ]
    refine wpZ_take (i := 2) (v := .pointer (some ⟨V, b, none⟩)) 87 rfl rfl (by kernel_rfl) (by kernel_rfl) (by kernel_rfl) (by kernel_rfl) (fun _ _ _ h => h) (Or.inl ⟨by rfl, fun w hSw => by go_simp⟩) HS0.out ?_
    simp only [Act.put, List.setIfInBounds_toArray, List.set_cons_zero, List.set_cons_succ]
    refine wpZ_take (i := 3) (v := .int .u64 (b1 : Int)) 88 rfl rfl (by kernel_rfl) (by kernel_rfl) (by kernel_rfl) (by kernel_rfl) (fun _ _ _ h => h) (Or.inl ⟨by rfl, fun w hSw => by (have qq := hSw.cell b Hb.out; rw [upd_ne _ _ _ _ BC.out, upd_ne _ _ _ _ BD.out, upd_ne _ _ _ _ (Ne.symm AB.out), upd_self _ _ _] at qq; clear hSw; go_simp)⟩) HS0.out ?_
    simp only [Act.put, List.setIfInBounds_toArray, List.set_cons_zero, List.set_cons_succ]
    refine wpZ_take (i := 4) (v := .int .i64 (c : Int)) 89 rfl rfl (by kernel_rfl) (by kernel_rfl) (by kernel_rfl) (by kernel_rfl) (fun _ _ _ h => h) (Or.inl ⟨by rfl, fun w hSw => by go_simp⟩) HS0.out ?_
    simp only [Act.put, List.setIfInBounds_toArray, List.set_cons_zero, List.set_cons_succ]
    refine wpZ_take (i := 5) (v := .pointer (some ⟨V, c, none⟩)) 90 rfl rfl (by kernel_rfl) (by kernel_rfl) (by kernel_rfl) (by kernel_rfl) (fun _ _ _ h => h) (Or.inl ⟨by rfl, fun w hSw => by go_simp⟩) HS0.out ?_
    simp only [Act.put, List.setIfInBounds_toArray, List.set_cons_zero, List.set_cons_succ]
    refine wpZ_take (i := 6) (v := .int .u64 (c2 : Int)) 91 rfl rfl (by kernel_rfl) (by kernel_rfl) (by kernel_rfl) (by kernel_rfl) (fun _ _ _ h => h) (Or.inl ⟨by rfl, fun w hSw => by (have qq := hSw.cell c Hc.out; rw [upd_self _ _ _] at qq; clear hSw; go_simp)⟩) HS0.out ?_
    simp only [Act.put, List.setIfInBounds_toArray, List.set_cons_zero, List.set_cons_succ]
    refine wpZ_take (i := 7) (v := .int .u64 (u2 : Int)) 92 rfl rfl (by kernel_rfl) (by kernel_rfl) (by kernel_rfl) (by kernel_rfl) (fun _ _ _ h => h) (Or.inl ⟨by rfl, fun w hSw => by go_simp⟩) HS0.out ?_
    simp only [Act.put, List.setIfInBounds_toArray, List.set_cons_zero, List.set_cons_succ]
    refine wpZ_one (i := 8) (by kernel_rfl) rfl (fun K hK => ?_)
    go_simp
    refine (C4 _).mono ?_
    rintro e w1 ⟨rfl, hw1⟩
    subst hw1
    go_wp2_with fail
    refine hK.out _ _ (fun _ => HS0.out) ?_
    clear hK K
    refine wpZ_one (i := 9) (by kernel_rfl) rfl (fun K hK => ?_)
    go_simp
    refine hK.out _ _ (fun _ => HS0.out) ?_
    clear hK K
    have qs : w7.cell? ⟨V, b, none⟩ = _ := HS0.out.cell b Hb.out
    refine wpZ_one (i := 10) (by kernel_rfl) rfl (fun K hK => ?_)
    go_simp
    refine hK.out _ _ (fun h => absurd rfl h) ?_
    clear hK K
    refine wpZ_done (by kernel_rfl) ?_ _
    go_wp2_with fail
    go_meet
    exact ⟨HB0.out.setCell (Nat.le_refl _) _, HS0.out.put b Hb.out b2, HR0.out.other (by dsimp only; omega) _⟩
  obtain ⟨hb8, bV8, bR8⟩ := hcut
  clear bV7 bR7 hb7 fV
  obtain ⟨w8, hw8⟩ : ∃ w8, w8 = wc := ⟨_, rfl⟩
  rw [← hw8] at hb8 bV8 bR8 ⊢
  clear hw8
  go_upto_region 9 with fail
  have bV := bV8.congr (g := g) (fun i _ => HG.out i)
  have q0 : w8.cell? ⟨V, 0, none⟩ = some (.int .u64 ((g 0 : Nat) : Int)) := bV.cell 0 (by decide)
  have q1 : w8.cell? ⟨V, 1, none⟩ = some (.int .u64 ((g 1 : Nat) : Int)) := bV.cell 1 (by decide)
  have q2 : w8.cell? ⟨V, 2, none⟩ = some (.int .u64 ((g 2 : Nat) : Int)) := bV.cell 2 (by decide)
  have q3 : w8.cell? ⟨V, 3, none⟩ = some (.int .u64 ((g 3 : Nat) : Int)) := bV.cell 3 (by decide)
  have q4 : w8.cell? ⟨V, 4, none⟩ = some (.int .u64 ((g 4 : Nat) : Int)) := bV.cell 4 (by decide)
  have q5 : w8.cell? ⟨V, 5, none⟩ = some (.int .u64 ((g 5 : Nat) : Int)) := bV.cell 5 (by decide)
  have q6 : w8.cell? ⟨V, 6, none⟩ = some (.int .u64 ((g 6 : Nat) : Int)) := bV.cell 6 (by decide)
  have q7 : w8.cell? ⟨V, 7, none⟩ = some (.int .u64 ((g 7 : Nat) : Int)) := bV.cell 7 (by decide)
  have q8 : w8.cell? ⟨V, 8, none⟩ = some (.int .u64 ((g 8 : Nat) : Int)) := bV.cell 8 (by decide)
  have q9 : w8.cell? ⟨V, 9, none⟩ = some (.int .u64 ((g 9 : Nat) : Int)) := bV.cell 9 (by decide)
  have q10 : w8.cell? ⟨V, 10, none⟩ = some (.int .u64 ((g 10 : Nat) : Int)) := bV.cell 10 (by decide)
  have q11 : w8.cell? ⟨V, 11, none⟩ = some (.int .u64 ((g 11 : Nat) : Int)) := bV.cell 11 (by decide)
  have q12 : w8.cell? ⟨V, 12, none⟩ = some (.int .u64 ((g 12 : Nat) : Int)) := bV.cell 12 (by decide)
  have q13 : w8.cell? ⟨V, 13, none⟩ = some (.int .u64 ((g 13 : Nat) : Int)) := bV.cell 13 (by decide)
  have q14 : w8.cell? ⟨V, 14, none⟩ = some (.int .u64 ((g 14 : Nat) : Int)) := bV.cell 14 (by decide)
  have q15 : w8.cell? ⟨V, 15, none⟩ = some (.int .u64 ((g 15 : Nat) : Int)) := bV.cell 15 (by decide)
  have fV : ∀ o, w8.frozen? ⟨V, o, none⟩ = false := bV8.frozen
  have cR := bR8.cell; have fR := bR8.frozen
  clear bV8 bV bR8
  go_wp2
  refine bodyPost_ret (v := .agg #[.int .u64 ((g 0 : Nat) : Int), .int .u64 ((g 1 : Nat) : Int), .int .u64 ((g 2 : Nat) : Int), .int .u64 ((g 3 : Nat) : Int), .int .u64 ((g 4 : Nat) : Int), .int .u64 ((g 5 : Nat) : Int), .int .u64 ((g 6 : Nat) : Int), .int .u64 ((g 7 : Nat) : Int), .int .u64 ((g 8 : Nat) : Int), .int .u64 ((g 9 : Nat) : Int), .int .u64 ((g 10 : Nat) : Int), .int .u64 ((g 11 : Nat) : Int), .int .u64 ((g 12 : Nat) : Int), .int .u64 ((g 13 : Nat) : Int), .int .u64 ((g 14 : Nat) : Int), .int .u64 ((g 15 : Nat) : Int)]) (by simp [results, Tryd.results22, go_sem, cR]) rfl ⟨rfl, ?_⟩
  rw [← HVV.out]
  repeat (first | with_reducible exact hb8 | with_reducible refine Below.drew ?_ | with_reducible refine Below.setCell ?_ (by first | omega | (simp; omega) | simp) _)

/-- The reference's mix. -/
theorem rmix_any (f : Nat → Nat) (a b c d x y : Nat) (hf : ∀ i, f i < 18446744073709551616) (ha : a < 16) (hb : b < 16) (hc : c < 16) (hd : d < 16) (ab : a ≠ b) (ac : a ≠ c) (ad : a ≠ d) (bc : b ≠ c) (bd : b ≠ d) (cd : c ≠ d) (w : World) :
    Calls Tryd.prog 22 #[.agg #[.int .u64 ((f 0 : Nat) : Int), .int .u64 ((f 1 : Nat) : Int), .int .u64 ((f 2 : Nat) : Int), .int .u64 ((f 3 : Nat) : Int), .int .u64 ((f 4 : Nat) : Int), .int .u64 ((f 5 : Nat) : Int), .int .u64 ((f 6 : Nat) : Int), .int .u64 ((f 7 : Nat) : Int), .int .u64 ((f 8 : Nat) : Int), .int .u64 ((f 9 : Nat) : Int), .int .u64 ((f 10 : Nat) : Int), .int .u64 ((f 11 : Nat) : Int), .int .u64 ((f 12 : Nat) : Int), .int .u64 ((f 13 : Nat) : Int), .int .u64 ((f 14 : Nat) : Int), .int .u64 ((f 15 : Nat) : Int)], .int .i64 (a : Int), .int .i64 (b : Int), .int .i64 (c : Int), .int .i64 (d : Int), .int .u64 (x : Int), .int .u64 (y : Int)] w fun e w' => e = .returned (.agg #[.int .u64 (((mixAt a b c d x y f) 0 : Nat) : Int), .int .u64 (((mixAt a b c d x y f) 1 : Nat) : Int), .int .u64 (((mixAt a b c d x y f) 2 : Nat) : Int), .int .u64 (((mixAt a b c d x y f) 3 : Nat) : Int), .int .u64 (((mixAt a b c d x y f) 4 : Nat) : Int), .int .u64 (((mixAt a b c d x y f) 5 : Nat) : Int), .int .u64 (((mixAt a b c d x y f) 6 : Nat) : Int), .int .u64 (((mixAt a b c d x y f) 7 : Nat) : Int), .int .u64 (((mixAt a b c d x y f) 8 : Nat) : Int), .int .u64 (((mixAt a b c d x y f) 9 : Nat) : Int), .int .u64 (((mixAt a b c d x y f) 10 : Nat) : Int), .int .u64 (((mixAt a b c d x y f) 11 : Nat) : Int), .int .u64 (((mixAt a b c d x y f) 12 : Nat) : Int), .int .u64 (((mixAt a b c d x y f) 13 : Nat) : Int), .int .u64 (((mixAt a b c d x y f) 14 : Nat) : Int), .int .u64 (((mixAt a b c d x y f) 15 : Nat) : Int)]) ∧ Below w.heap.size w w' :=
  rmix_walk f a b c d x y (addW (f a) (f b)) (mixA1 (f a) (f b) x) (f d ^^^ mixA1 (f a) (f b) x) (mixD1 (f a) (f b) (f d) x) (mixC1 (f a) (f b) (f c) (f d) x) (f b ^^^ mixC1 (f a) (f b) (f c) (f d) x) (mixB1 (f a) (f b) (f c) (f d) x) (addW (mixA1 (f a) (f b) x) (mixB1 (f a) (f b) (f c) (f d) x)) (mixA (f a) (f b) (f c) (f d) x y) (mixD1 (f a) (f b) (f d) x ^^^ mixA (f a) (f b) (f c) (f d) x y) (mixD (f a) (f b) (f c) (f d) x y) (mixC (f a) (f b) (f c) (f d) x y) (mixB1 (f a) (f b) (f c) (f d) x ^^^ mixC (f a) (f b) (f c) (f d) x y) (mixB (f a) (f b) (f c) (f d) x y) (f a) (f b) (f c) (f d) w ha hb hc hd ab ac ad bc bd cd rfl rfl rfl rfl
    (wrap_addW _ _) (by rw [wrap_addW, addW_assoc]; rfl) (xor_run _ _ (hf d) (addW_lt _ _)) (fun w => turn32 _ (xor_lt _ _ (hf d) (addW_lt _ _)) w)
    (wrap_addW _ _) (xor_run _ _ (hf b) (addW_lt _ _)) (fun w => turn24 _ (xor_lt _ _ (hf b) (addW_lt _ _)) w)
    (wrap_addW _ _) (by rw [wrap_addW, addW_assoc]; rfl) (xor_run _ _ (mixD1_lt _ _ _ x (hf d)) (addW_lt _ _)) (fun w => turn16 _ (xor_lt _ _ (mixD1_lt _ _ _ x (hf d)) (addW_lt _ _)) w)
    (wrap_addW _ _) (xor_run _ _ (mixB1_lt _ _ _ _ x (hf b)) (addW_lt _ _)) (fun w => turn63 _ (xor_lt _ _ (mixB1_lt _ _ _ _ x (hf b)) (addW_lt _ _)) w)
    (mixAt a b c d x y f) (fun _ => rfl)

end Go.Proofs.YtolaofoffakddaaDoor
