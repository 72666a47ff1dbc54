/- What (*blake.Digest).Write does. -/
import Derived.Test.YtolaofoffakddaaDoorB9
import Derived.Test.YtolaofoffakddaaDoorRZ
import Derived.DataElems
namespace Go.Proofs.YtolaofoffakddaaDoor
open Go.RowKit

theorem add_block (a : Addr) (i : Nat) : (a.add i).block = a.block := by unfold Addr.add; split <;> rfl
theorem leN_congr {f g : Nat → Nat} : ∀ n, (∀ i, i < n → f i = g i) → leN f n = leN g n
  | 0, _ => rfl
  | n + 1, h => by
    show leN f n + f n * 256 ^ n = leN g n + g n * 256 ^ n
    rw [leN_congr n (fun i hi => h i (by omega)), h n (by omega)]
theorem wrd_congr {f g : Nat → Nat} (h : ∀ i, i < 128 → f i = g i) : wrd f = wrd g := by
  funext i; unfold wrd; rw [leN_congr 128 h]
/-- What a round of Write leaves. -/
theorem write_end (w wr w5 : World) (d L N n m l c ct k hd : Nat) (a : Addr) (st B b : Nat → Nat) (x : Int) (hm : m ≤ n) (el : l = n - m) (hct : ct ≤ l ∧ ct ≤ 128 - hd ∧ 0 < ct) (hNk : N + m = 128 * k + hd) (hd128 : hd ≤ 128)
    (hb1 : ∀ j, j < hd → b j = B (128 * k + j)) (hb2 : ∀ j, j < 128 → b j < 256) (hB : ∀ i, B i < 256) (hx : x = ((hd + ct : Nat) : Int)) (hK : Kept d w wr) (hK5 : Kept d wr w5)
    (bD5 : BlkV w5 48 d 139 (digV L (hsB st B k) (128 * k) (fun j => if hd ≤ j ∧ j < hd + ct then B (N + m + (j - hd)) else b j) hd))
    (hc1 : l ≤ c) (hc2 : c ≤ maxLen) (hal : a.block < wr.heap.size) (hcell : ∀ i, i < l → wr.cell? (a.add i) = some (.int .u8 ((B (N + m + i) : Nat) : Int))) (hbd : a.block ≠ d) :
    (∃ m', m' ≤ n ∧ Kept d w (w5.setCell ⟨d, 138, none⟩ (.int .i64 x)) ∧ Dg (w5.setCell ⟨d, 138, none⟩ (.int .i64 x)) d L st B (N + m') ∧
      Bs (w5.setCell ⟨d, 138, none⟩ (.int .i64 x)) (.slice (if c = ct then some a else some (a.add ct)) (l - ct) (c - ct)) (n - m') (fun i => B (N + m' + i)) ∧
      ∀ a' l' c', Value.slice (if c = ct then some a else some (a.add ct)) (l - ct) (c - ct) = .slice (some a') l' c' → a'.block ≠ d) ∧
    lenV (.slice (if c = ct then some a else some (a.add ct)) (l - ct) (c - ct)) < lenV (.slice (some a) l c) := by
  subst hx
  obtain ⟨h1, h2, h3⟩ := hct
  refine ⟨⟨m + ct, by omega, (hK.trans hK5).setCell _ _, ⟨k, hd + ct, _, by omega, by omega, by omega, dig_held bD5 (hd + ct), ?_, ?_⟩, ?_, ?_⟩, ?_⟩
  · intro j hj
    by_cases hj2 : hd ≤ j
    · simp only [if_pos (show hd ≤ j ∧ j < hd + ct from ⟨hj2, hj⟩)]
      rw [show N + m + (j - hd) = 128 * k + j from by omega]
    · simp only [if_neg (show ¬ (hd ≤ j ∧ j < hd + ct) from by omega)]
      exact hb1 j (by omega)
  · intro j hj
    split
    · exact hB _
    · exact hb2 j hj
  · by_cases hc : c = ct
    · rw [if_pos hc]
      exact Or.inr ⟨a, c - ct, by rw [show n - (m + ct) = l - ct from by omega], by omega, by omega, by rw [World.size_setCell]; exact Nat.lt_of_lt_of_le hal hK5.size, fun i hi => by omega⟩
    · rw [if_neg hc]
      refine Or.inr ⟨a.add ct, c - ct, by rw [show n - (m + ct) = l - ct from by omega], by omega, by omega, by rw [World.size_setCell, add_block]; exact Nat.lt_of_lt_of_le hal hK5.size, fun i hi => ?_⟩
      rw [Addr.add_add, World.cell?_setCell_other _ _ _ _ (fun e => hbd (by have := congrArg Addr.block e; rw [add_block] at this; exact this.symm)), hK5.cell (by rw [add_block]; exact hal) (by rw [add_block]; exact hbd), hcell (ct + i) (by omega)]
      rw [show N + m + (ct + i) = N + (m + ct) + i from by omega]
  · intro a' l' c' e
    by_cases hc : c = ct
    · rw [if_pos hc] at e; cases e; exact hbd
    · rw [if_neg hc] at e; cases e; rw [add_block]; exact hbd
  · show l - ct < l
    omega
theorem load8 {d L T hd : Nat} {h b : Nat → Nat} {t : TypeId} {ops : Array Oper} {op : Oper} {a : Act} (hw : Region.wanted op (yielded ops a.tmps) = true) (ty : TypeId) (x : Operand) (ho : op.op = .load ty x) (hty : ty = 46) (hx : a.eval x = .pointer (some ⟨d, 10, none⟩)) :
    YieldsIf Tryd.prog ops (fun w => BlkV w t d 139 (digV L h T b hd)) op (.agg (blkA b)) a := by
  refine Or.inl ⟨hw, fun w hS => ?_⟩
  subst hty
  unfold execOp
  simp only [ho, hx, Sem.run_bind, load_block hS, Result.andThen_ok, Sem.run_pure]
set_option maxHeartbeats 8000000 in
set_option maxRecDepth 20000 in
theorem write_any (d L N n : Nat) (v : Value) (st B : Nat → Nat) (hst : ∀ i, st i < 18446744073709551616) (hB : ∀ i, B i < 256) (hN : N + n ≤ 100000) (hd2 : 2 ≤ d) (w : World) (hg : GlobB w) (hD : Dg w d L st B N)
    (hv : Bs w v n (fun i => B (N + i))) (hvd : ∀ a m c, v = .slice (some a) m c → a.block ≠ d) :
    Calls Tryd.prog 13 #[.pointer (some ⟨d, 0, none⟩), v] w fun e w' => e = .returned (.tuple #[]) ∧ Kept d w w' ∧ Dg w' d L st B (N + n) := by
  have HG : Hid (GlobB w) := hg; have HST := (show Hid _ from hst); have HB := (show Hid _ from hB)
  have HV : Hid (Bs w v n (fun i => B (N + i))) := hv
  clear hg hst hB
  go_enter Tryd.func13, Tryd.ntmps13
  go_wp2_with fail
  go_loopw [1] (fun sv wr => ∃ m : Nat, m ≤ n ∧ Kept d w wr ∧ Dg wr d L st B (N + m) ∧ Bs wr sv (n - m) (fun i => B (N + m + i)) ∧ ∀ a l c, sv = .slice (some a) l c → a.block ≠ d) (fun sv _ => lenV sv)
  case atStart => exact ⟨0, Nat.zero_le _, Kept.refl _ _, hD, hv, hvd⟩
  case round =>
    obtain ⟨m, hm, hK, hD1, hv1, hvd1⟩ := hrel
    clear hD hv hvd
    rcases hv1 with ⟨rfl, h0⟩ | ⟨a, c, rfl, hc1, hc2, hal, hcell⟩
    · have hmn : m = n := by omega
      subst hmn
      go_wp2
      (try simp only [Exit.inBlock, Exit.then])
      refine bodyPost_end (v := .tuple #[]) (by simp [results, Tryd.results13, go_sem]) rfl ⟨rfl, hK, hD1⟩
    · have hbd := hvd1 a _ c rfl
      by_cases hlt : m < n
      · obtain ⟨k, hd, b, hNk, hd128, hz, bD, hb1, hb2⟩ := hD1
        obtain ⟨l, el⟩ : ∃ l, l = n - m := ⟨_, rfl⟩
        rw [← el] at hc1 hcell ⊢
        have hl0 : (0 : Int) < (l : Int) := by omega
        have c138 : wr.cell? ⟨d, 138, none⟩ = some (.int .i64 (hd : Int)) := bD.cell 138 (by decide)
        by_cases h128 : hd = 128
        · subst h128
          have c9 : wr.cell? ⟨d, 9, none⟩ = some (.int .u64 ((128 * k : Nat) : Int)) := bD.cell 9 (by decide)
          have fD := bD.frozen
          have hk1 : 128 * (k + 1) < 18446744073709551616 := by omega
          have W0 := wordsOf_any (blkA b) b (blkA_size b) (blkA_get b) hb2
          have C0 := fun w hg => compress_any (hsB st B k) (wrd b) (128 * (k + 1)) false (hsB_lt st B HST.out k (by omega)) hk1 w hg
          have HCW : Hid (∀ w, GlobB w → _) := C0
          have HWO : Hid (∀ w, _) := W0
          clear C0 W0
          have e1 : ((128 * k : Nat) : Int) + 128 = ((128 * (k + 1) : Nat) : Int) := by omega
          obtain ⟨T, eT⟩ : ∃ T, T = 128 * (k + 1) := ⟨_, rfl⟩
          obtain ⟨T0, eT0⟩ : ∃ T, T = 128 * k := ⟨_, rfl⟩
          rw [← eT] at hk1 HCW e1
          rw [← eT0] at c9 e1
          have ET := (show Hid _ from eT); have ET0 := (show Hid _ from eT0)
          have hT0 : (T0 : Int) + 128 = (T : Int) := e1
          have EL := (show Hid _ from el)
          have bDT := dig_mixed bD T
          have HCL := (show Hid _ from hcell)
          clear eT eT0 e1 el hcell
          go_upto_region 3 with fail
          obtain ⟨w1, hw1⟩ : ∃ w1 : World, w1 = wr.setCell ⟨d, 9, none⟩ (.int .u64 (T : Int)) := ⟨_, rfl⟩
          rw [← hw1] at bDT ⊢
          have hK1 : Kept d w w1 := by rw [hw1]; exact hK.setCell _ _
          have hKr : Kept d wr w1 := by rw [hw1]; exact (Kept.refl _ _).setCell _ _
          clear hw1 c9 fD c138 bD
          obtain ⟨h, eh⟩ : ∃ h, h = hsB st B k := ⟨_, rfl⟩
          rw [← eh] at bDT HCW
          obtain ⟨z, ez⟩ : ∃ z, z = comp h (wrd b) T false := ⟨_, rfl⟩
          rw [← ez] at HCW
          have EZ : Hid (z = hsB st B (k + 1)) := by
            show z = comp (hsB st B k) (wrd (fun j => B (128 * k + j))) (128 * (k + 1)) false
            rw [ez, eh, ET.out, wrd_congr hb1]
          have LB := load_block bDT.drew
          obtain ⟨M, eM⟩ : ∃ M, M = wrd b := ⟨_, rfl⟩
          rw [← eM] at HCW HWO
          obtain ⟨q1, q2, q3, q4, q5, q6, q7, q8, q9, fD⟩ := dig_cells bDT
          have GW : Hid (GlobB w1) := hK1.glob hd2 HG.out
          clear eh ez eM
          go_cut [] (fun wx => Kept d wr wx ∧ BlkV wx 48 d 139 (digV L z T b 128))
          case first =>
            have HS0 : Hid (BlkV w1.drew 48 d 139 (digV L h T b 128)) := bDT.drew
            have GW' : Hid (GlobB w1.drew) := GW.out
            clear LB q1 q2 q3 q4 q5 q6 q7 q8 q9 fD
            refine wp_region_Z (fun w' => BlkV w' 48 d 139 (digV L h T b 128)) 17 (by kernel_rfl) ?_
            refine wpZ_take (i := 0) (v := .pointer (some ⟨d, 0, none⟩)) 20 rfl rfl (by kernel_rfl) (by kernel_rfl) (by kernel_rfl) (by kernel_rfl) (fun _ _ _ h => h) (Or.inl ⟨by rfl, fun w hSw => by go_simp⟩) HS0.out ?_
            simp only [Act.put, List.setIfInBounds_toArray, List.set_cons_zero, List.set_cons_succ]
            refine wpZ_take (i := 1) (v := .pointer (some ⟨d, 0, none⟩)) 21 rfl rfl (by kernel_rfl) (by kernel_rfl) (by kernel_rfl) (by kernel_rfl) (fun _ _ _ h => h) (Or.inl ⟨by rfl, fun w hSw => by go_simp⟩) HS0.out ?_
            simp only [Act.put, List.setIfInBounds_toArray, List.set_cons_zero, List.set_cons_succ]
            refine wpZ_take (i := 2) (v := .pointer (some ⟨d, 0, none⟩)) 22 rfl rfl (by kernel_rfl) (by kernel_rfl) (by kernel_rfl) (by kernel_rfl) (fun _ _ _ h => h) (Or.inl ⟨by rfl, fun w hSw => by go_simp⟩) HS0.out ?_
            simp only [Act.put, List.setIfInBounds_toArray, List.set_cons_zero, List.set_cons_succ]
            refine wpZ_take (i := 3) (v := .pointer (some ⟨d, 1, none⟩)) 23 rfl rfl (by kernel_rfl) (by kernel_rfl) (by kernel_rfl) (by kernel_rfl) (fun _ _ _ h => h) (Or.inl ⟨by rfl, fun w hSw => by go_simp⟩) HS0.out ?_
            simp only [Act.put, List.setIfInBounds_toArray, List.set_cons_zero, List.set_cons_succ]
            refine wpZ_take (i := 4) (v := .agg #[.int .u64 ((h 0 : Nat) : Int), .int .u64 ((h 1 : Nat) : Int), .int .u64 ((h 2 : Nat) : Int), .int .u64 ((h 3 : Nat) : Int), .int .u64 ((h 4 : Nat) : Int), .int .u64 ((h 5 : Nat) : Int), .int .u64 ((h 6 : Nat) : Int), .int .u64 ((h 7 : Nat) : Int)]) 24 rfl rfl (by kernel_rfl) (by kernel_rfl) (by kernel_rfl) (by kernel_rfl) (fun _ _ _ h => h) (Or.inl ⟨by rfl, fun w hSw => by (obtain ⟨q1, q2, q3, q4, q5, q6, q7, q8, q9, fD⟩ := dig_cells hSw; clear hSw; go_simp)⟩) HS0.out ?_
            simp only [Act.put, List.setIfInBounds_toArray, List.set_cons_zero, List.set_cons_succ]
            refine wpZ_take (i := 5) (v := .pointer (some ⟨d, 0, none⟩)) 25 rfl rfl (by kernel_rfl) (by kernel_rfl) (by kernel_rfl) (by kernel_rfl) (fun _ _ _ h => h) (Or.inl ⟨by rfl, fun w hSw => by go_simp⟩) HS0.out ?_
            simp only [Act.put, List.setIfInBounds_toArray, List.set_cons_zero, List.set_cons_succ]
            refine wpZ_take (i := 6) (v := .pointer (some ⟨d, 0, none⟩)) 26 rfl rfl (by kernel_rfl) (by kernel_rfl) (by kernel_rfl) (by kernel_rfl) (fun _ _ _ h => h) (Or.inl ⟨by rfl, fun w hSw => by go_simp⟩) HS0.out ?_
            simp only [Act.put, List.setIfInBounds_toArray, List.set_cons_zero, List.set_cons_succ]
            refine wpZ_take (i := 7) (v := .pointer (some ⟨d, 10, none⟩)) 27 rfl rfl (by kernel_rfl) (by kernel_rfl) (by kernel_rfl) (by kernel_rfl) (fun _ _ _ h => h) (Or.inl ⟨by rfl, fun w hSw => by go_simp⟩) HS0.out ?_
            simp only [Act.put, List.setIfInBounds_toArray, List.set_cons_zero, List.set_cons_succ]
            refine wpZ_take (i := 8) (v := .agg (blkA b)) 28 rfl rfl (by kernel_rfl) (by kernel_rfl) (by kernel_rfl) (by kernel_rfl) (fun _ _ _ h => h) (load8 (by rfl) _ _ rfl rfl rfl) HS0.out ?_
            simp only [Act.put, List.setIfInBounds_toArray, List.set_cons_zero, List.set_cons_succ]
            refine wpZ_take (i := 10) (v := .pointer (some ⟨d, 0, none⟩)) 30 rfl rfl (by kernel_rfl) (by kernel_rfl) (by kernel_rfl) (by kernel_rfl) (fun _ _ _ h => h) (Or.inl ⟨by rfl, fun w hSw => by go_simp⟩) HS0.out ?_
            simp only [Act.put, List.setIfInBounds_toArray, List.set_cons_zero, List.set_cons_succ]
            refine wpZ_take (i := 11) (v := .pointer (some ⟨d, 0, none⟩)) 31 rfl rfl (by kernel_rfl) (by kernel_rfl) (by kernel_rfl) (by kernel_rfl) (fun _ _ _ h => h) (Or.inl ⟨by rfl, fun w hSw => by go_simp⟩) HS0.out ?_
            simp only [Act.put, List.setIfInBounds_toArray, List.set_cons_zero, List.set_cons_succ]
            refine wpZ_take (i := 12) (v := .pointer (some ⟨d, 9, none⟩)) 32 rfl rfl (by kernel_rfl) (by kernel_rfl) (by kernel_rfl) (by kernel_rfl) (fun _ _ _ h => h) (Or.inl ⟨by rfl, fun w hSw => by go_simp⟩) HS0.out ?_
            simp only [Act.put, List.setIfInBounds_toArray, List.set_cons_zero, List.set_cons_succ]
            refine wpZ_take (i := 13) (v := .int .u64 (T : Int)) 33 rfl rfl (by kernel_rfl) (by kernel_rfl) (by kernel_rfl) (by kernel_rfl) (fun _ _ _ h => h) (Or.inl ⟨by rfl, fun w hSw => by (obtain ⟨q1, q2, q3, q4, q5, q6, q7, q8, q9, fD⟩ := dig_cells hSw; clear hSw; go_simp)⟩) HS0.out ?_
            simp only [Act.put, List.setIfInBounds_toArray, List.set_cons_zero, List.set_cons_succ]
            refine wpZ_one (i := 9) (by kernel_rfl) rfl (fun K hK => ?_)
            go_simp
            refine (HWO.out _).mono ?_
            rintro e w2 ⟨rfl, hb2'⟩
            go_wp2_with fail
            refine hK.out _ _ (fun _ => HS0.out.belowAll hb2') ?_
            clear hK K
            refine wpZ_one (i := 14) (by kernel_rfl) rfl (fun K hK => ?_)
            go_simp
            refine (HCW.out _ (GW'.out.below hb2')).mono ?_
            rintro e w3 ⟨rfl, hb3'⟩
            have bD3 := (HS0.out.belowAll hb2').belowAll hb3'
            go_wp2_with fail
            refine hK.out _ _ (fun _ => bD3) ?_
            clear hK K
            obtain ⟨s1, s2, s3, s4, s5, s6, s7, s8, s9, sD⟩ := dig_cells bD3
            refine wpZ_one (i := 15) (by kernel_rfl) rfl (fun K hK => ?_)
            go_simp
            refine hK.out _ _ (fun _ => bD3) ?_
            clear hK K
            refine wpZ_one (i := 16) (by kernel_rfl) rfl (fun K hK => ?_)
            go_simp
            refine hK.out _ _ (fun _ => bD3) ?_
            clear hK K
            refine wpZ_one (i := 17) (by kernel_rfl) rfl (fun K hK => ?_)
            go_simp
            refine hK.out _ _ (fun h => absurd rfl h) ?_
            clear hK K
            refine wpZ_done (by kernel_rfl) ?_ _
            go_wp2_with fail
            go_meet
            refine ⟨?_, dig_set8 bD3 z⟩
            have hk3 : Kept d wr w3 := (hKr.drew.step hb2').step hb3'
            exact (((((((hk3.setCell _ _).setCell _ _).setCell _ _).setCell _ _).setCell _ _).setCell _ _).setCell _ _).setCell _ _
          obtain ⟨hK2, bD2⟩ := hcut
          rw [EZ.out, ET.out] at bD2
          have c138 := bD2.cell 138 (by decide)
          have fD := bD2.frozen
          have bD4 : BlkV (wc.setCell ⟨d, 138, none⟩ (.int .i64 0)) 48 d 139 (digV L (hsB st B (k + 1)) (128 * (k + 1)) b 0) := dig_held bD2 0
          have hK4 : Kept d wr (wc.setCell ⟨d, 138, none⟩ (.int .i64 0)) := hK2.setCell _ _
          go_upto_region 5 with fail
          obtain ⟨w4, hw4⟩ : ∃ w4 : World, w4 = wc.setCell ⟨d, 138, none⟩ (.int .i64 0) := ⟨_, rfl⟩
          rw [← hw4] at bD4 hK4 ⊢
          clear hw4 c138 fD bD2 hK2
          have CP := copy_run bD4.drew 0 l c 3 a (fun i => B (N + m + i)) (by omega) (fun i hi => by
            show w4.cell? (a.add i) = _
            rw [hK4.cell (p := a.add i) (by rw [add_block]; exact hal) (by rw [add_block]; exact hbd)]
            exact HCL.out i hi)
          rw [Nat.add_zero, Nat.sub_zero] at CP
          obtain ⟨ct, ect⟩ : ∃ ct, ct = Nat.min l 128 := ⟨_, rfl⟩
          have hct : ct ≤ l ∧ ct ≤ 128 - 0 ∧ 0 < ct := by rw [ect]; simp only [Nat.min_def]; split <;> omega
          rw [← ect] at CP
          have bD5 := dig_copy bD4.drew 0 ct (fun i => B (N + m + i)) (by omega)
          have hK5 := Kept.setCells (bysV (fun i => B (N + m + i)) ct) 10 _ hK4.drew
          rw [Nat.add_zero] at bD5
          obtain ⟨w5, hw5⟩ : ∃ w5 : World, w5 = w4.drew.setCells d 10 (bysV (fun i => B (N + m + i)) ct) := ⟨_, rfl⟩
          rw [← hw5] at CP bD5 hK5
          have END := write_end w wr w5 d L N n m l c ct (k + 1) 0 a st B b (ct : Int) hm EL.out hct (by omega) (by decide) (fun j hj => by omega) hb2 HB.out (by omega) hK hK5 bD5 hc1 hc2 hal HCL.out hbd
          have HEND := (show Hid _ from fun (_ : Unit) => END)
          have c138 : w4.cell? ⟨d, 138, none⟩ = some (.int .i64 0) := bD4.cell 138 (by decide)
          clear END ect hw5 EZ ET HWO HCW
          go_region
          have c5 : w5.cell? ⟨d, 138, none⟩ = some (.int .i64 0) := bD5.cell 138 (by decide)
          have f5 := bD5.frozen
          have hc0' : (0 : Int) ≤ (ct : Int) := by omega
          have hc1' : (ct : Int) ≤ (l : Int) := by have := hct.1; omega
          have hc2' : (ct : Int) ≤ 128 := by have := hct.2.1; omega
          have hlc : (l : Int) ≤ (c : Int) := by omega
          clear c138 bD4 bD5 hct CP
          go_wp2
          exact HEND.out ()
        · have hne : ((hd : Int) == 128) = false := by simp; omega
          have CP := copy_run bD.drew hd l c 3 a (fun i => B (N + m + i)) (by omega) hcell
          obtain ⟨ct, ect⟩ : ∃ ct, ct = Nat.min l (128 - hd) := ⟨_, rfl⟩
          have hct : ct ≤ l ∧ ct ≤ 128 - hd ∧ 0 < ct := by rw [ect]; simp only [Nat.min_def]; split <;> omega
          rw [← ect] at CP
          have bD5 := dig_copy bD.drew hd ct (fun i => B (N + m + i)) (by omega)
          have hK5 := Kept.setCells (bysV (fun i => B (N + m + i)) ct) (10 + hd) _ (Kept.refl d wr).drew
          obtain ⟨w5, hw5⟩ : ∃ w5 : World, w5 = wr.drew.setCells d (10 + hd) (bysV (fun i => B (N + m + i)) ct) := ⟨_, rfl⟩
          rw [← hw5] at CP bD5 hK5
          have END := write_end w wr w5 d L N n m l c ct k hd a st B b ((hd : Int) + (ct : Int)) hm el hct (by omega) hd128 hb1 hb2 HB.out (by omega) hK hK5 bD5 hc1 hc2 hal hcell hbd
          have HEND := (show Hid _ from fun (_ : Unit) => END)
          have hI0 : (0 : Int) ≤ (hd : Int) := by omega
          have hI1 : (hd : Int) ≤ 128 := by omega
          have hq : ¬ 128 = hd := by omega
          have HCT := (show Hid _ from hct)
          clear END el ect hcell h128 hw5 hct
          go_upto_region 5 with fail
          go_region
          have c5 : w5.cell? ⟨d, 138, none⟩ = some (.int .i64 (hd : Int)) := bD5.cell 138 (by decide)
          have f5 := bD5.frozen
          have hc0 : (0 : Int) ≤ (ct : Int) := by omega
          have hc1' : (ct : Int) ≤ (l : Int) := by have := HCT.out.1; omega
          have hc2' : (ct : Int) ≤ 128 := by have := HCT.out.2.1; omega
          have hlc : (l : Int) ≤ (c : Int) := by omega
          clear c138 bD bD5 CP
          go_wp2
          exact HEND.out ()
      · have hl0 : n - m = 0 := by omega
        rw [hl0]
        have hmn : m = n := by omega
        subst hmn
        clear hcell hlt
        go_wp2
        (try simp only [Exit.inBlock, Exit.then])
        refine bodyPost_end (v := .tuple #[]) (by simp [results, Tryd.results13, go_sem]) rfl ⟨rfl, hK, hD1⟩

end Go.Proofs.YtolaofoffakddaaDoor
