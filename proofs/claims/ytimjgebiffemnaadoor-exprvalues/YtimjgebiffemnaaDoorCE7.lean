/- expr.Degrees. -/
import Derived.Test.YtimjgebiffemnaaDoorCE6
import Derived.Test.YtimjgebiffemnaaDoorBE
namespace Go.Proofs.YtimjgebiffemnaaDoor
open Go.RowKit

/-- The degrees of the first k nodes; noughts behind them. -/
def dgs (T : Nat → Int × Int × Int × Nat) : Nat → Nat → Int
  | 0, _ => 0
  | k + 1, i => if i = k then dstep (T k) (dgs T k) else dgs T k i
theorem dgs_range (T : Nat → Int × Int × Int × Nat) : ∀ k, (∀ i, i < k → okN (T i) i = true) → ∀ i, 0 ≤ dgs T k i ∧ dgs T k i ≤ 1000
  | 0, _, i => (show (0 : Int) ≤ 0 ∧ (0 : Int) ≤ 1000 from ⟨by decide, by decide⟩)
  | k + 1, h, i => by
    have ih := dgs_range T k (fun i hi => h i (by omega))
    show 0 ≤ (if i = k then dstep (T k) (dgs T k) else dgs T k i) ∧ (if i = k then dstep (T k) (dgs T k) else dgs T k i) ≤ 1000
    split
    · exact dstep_range (T k) _ k (h k (by omega)) (fun i _ => ih i)
    · exact ih i
theorem made_int (n i j : Nat) (hi : i < n) (hj : j < 1) : (madeCells #[.int .i64 0] n).toList[i * 1 + j]? = some (.int .i64 0) := by
  rw [Array.getElem?_toList]
  unfold madeCells
  rw [Array.getElem?_map, Array.getElem?_range, if_pos (by omega)]
  show some _ = _
  dsimp only
  rw [show (#[.int .i64 0] : Array Value).size = 1 from rfl, show (i * 1 + j) % 1 = 0 from by omega]
  rfl
theorem intInfo : ∃ i : TypeInfo, Tryd.prog.info? 3 = some i ∧ i.zero = some (.int .i64 0) ∧ i.size = 1 ∧ i.bytes = 8 := by
  have h : (Tryd.prog.info? 3).map (fun i => (i.zero, i.size, i.bytes)) = some (some (.int .i64 0), 1, 8) := by kernel_rfl
  obtain ⟨i, hi, he⟩ := Option.map_eq_some_iff.mp h
  simp only [Prod.mk.injEq] at he
  exact ⟨i, hi, he.1, he.2.1, he.2.2⟩
set_option maxHeartbeats 16000000 in
set_option maxRecDepth 100000 in
theorem degrees_any (n cn : Nat) (oa : Option Addr) (T : Nat → Int × Int × Int × Nat) (hn : n ≤ 1000000) (w : World) (hv : Rs w (.slice oa n cn) 7 n (fun i => nC (T i))) :
    Calls Tryd.prog 13 #[.slice oa n cn] w fun e w' => ((ordB n T = true ∧ ∃ G, e = .returned (.slice (some ⟨G, 0, none⟩) n n) ∧ w.heap.size ≤ G ∧ BlkR w' 3 G 1 n (fun i _ => .int .i64 (dgs T n i))) ∨ (ordB n T = false ∧ e = .returned (.slice none 0 0))) ∧ Below w.heap.size w w' := by
  obtain ⟨i0, hi, hz0, hz1, hz2⟩ := intInfo
  have HI := (show Hid _ from hi); have HZ := (show Hid _ from And.intro hz0 (And.intro hz1 hz2)); clear hi hz0 hz1 hz2
  have HORD := (show Hid (Calls _ _ _ _ _) from ordered_any n cn oa T hn w hv)
  clear hv
  go_enter Tryd.func13, Tryd.ntmps13
  go_wp2_with fail
  refine Calls.mono HORD.out ?_
  rintro e w1 ⟨hh | hh, hb1⟩
  · obtain ⟨ho, L, rfl, lL, bL⟩ := hh
    have ho' : ∀ i, i < n → okN (T i) i = true := of_decide_eq_true ho
    have HO : Hid (∀ i, i < n → okN (T i) i = true) := ho'
    have HOR : Hid (ordB n T = true) := ho
    clear ho ho' HORD
    go_wp2_with (first
      | (at_make; refine wpList_make_full _ rfl _ _ 28 rfl w1.heap.size 3 i0 (.int .i64 0) 1 Tryd.underlying28 HI.out HZ.out.1 HZ.out.2.1 .i64 .i64 n n n rfl rfl rfl rfl ?c1 ?c2 (Nat.le_refl _) ?_)
      | go_in)
    case c1 => rw [HZ.out.2.2]; omega
    case c2 => unfold maxLen; omega
    intro w2 hown hgrow
    obtain ⟨G, eG⟩ : ∃ G, G = w1.heap.size := ⟨_, rfl⟩
    have lG : w1.heap.size ≤ G := by omega
    rw [← eG] at hown ⊢
    have bo2 : BlkR w2 3 G 1 n (fun _ _ => .int .i64 0) := (own_blkR (F := fun _ _ => .int .i64 0) hown (fun i hi j hj => made_int n i j hi hj)).1
    have hbe : Below w1.heap.size w1 w2 := (Below.refl _ w1).grown hgrow (Nat.le_refl _) (fun j hj => by cases hj)
    have bL2 := bL.belowAll hbe
    clear hown hgrow eG
    go_wp2
    go_loopw [20] (fun iv wr => ∃ k : Nat, iv = .int .i64 (k : Int) ∧ k ≤ n ∧ Below w1.heap.size w1 wr ∧ BlkR wr 3 G 1 n (fun i _ => .int .i64 (dgs T k i))) (fun iv _ => n - (intOf iv).toNat)
    case atStart => exact ⟨0, rfl, Nat.zero_le _, hbe, bo2.congr (fun i _ j _ => rfl)⟩
    case round =>
      obtain ⟨k, rfl, hk, hbr, bo⟩ := hrel
      clear bo2 hbe bL2
      by_cases hlt : k < n
      · have hki : (k : Int) < (n : Int) := by omega
        have hk0 : (0 : Int) ≤ (k : Int) := by omega
        obtain ⟨ty, pv, fn, rv, hif, fm, fna, fcl, HC⟩ := deg_op (T k) k (HO.out k hlt)
        have a0 := (bL.belowAll hbr).cell k hlt 0 (by decide)
        rw [Nat.mul_one, Nat.add_zero, hif] at a0
        have HCC := (show Hid _ from HC)
        have HRG : Hid (∀ i, i < k → 0 ≤ dgs T k i ∧ dgs T k i ≤ 1000) := fun i _ => dgs_range T k (fun i hi => HO.out i (by omega)) i
        have HZS : Hid (∀ w', BlkR w' 3 G 1 n (fun i _ => .int .i64 (dgs T k i)) → Zs w' (.slice (some ⟨G, 0, none⟩) k n) k (dgs T k)) := fun w' hq => Or.inr ⟨G, 0, n, rfl, hk, by unfold maxLen; omega, hq.lt, fun i hi j hj => by rw [Nat.zero_add]; exact hq.cell i (by omega) j hj⟩
        clear hif HC
        go_upto_region 8 with fail
        clear a0
        have hbr' : Below w1.heap.size w1 wr := hbr
        refine wp_region_Z (fun w' => BlkR w' 3 G 1 n (fun i _ => .int .i64 (dgs T k i))) 11 (by kernel_rfl) ?_
        obtain ⟨wD, hD⟩ : ∃ x : World, x = wr.drew := ⟨_, rfl⟩
        rw [← hD]
        have hp0 : BlkR wD 3 G 1 n (fun i _ => .int .i64 (dgs T k i)) := by rw [hD]; exact bo.drew
        have hlow0 : Below w1.heap.size w1 wD := by rw [hD]; exact hbr.drew
        clear hD
        refine wpZ_take (i := 0) (v := .slice (some ⟨G, 0, none⟩) n n) 25 rfl rfl (by kernel_rfl) (by kernel_rfl) (by kernel_rfl) (Or.inl (by kernel_rfl)) (fun _ _ _ h => h) (Or.inl ⟨by rfl, fun w hSw => by go_simp⟩) hp0 ?_
        simp only [Act.put, List.setIfInBounds_toArray]
        dsimp only [List.set_cons_zero, List.set_cons_succ]
        refine wpZ_take (i := 1) (v := .int .i64 (k : Int)) 26 rfl rfl (by kernel_rfl) (by kernel_rfl) (by kernel_rfl) (Or.inl (by kernel_rfl)) (fun _ _ _ h => h) (Or.inl ⟨by rfl, fun w hSw => by go_simp⟩) hp0 ?_
        simp only [Act.put, List.setIfInBounds_toArray]
        dsimp only [List.set_cons_zero, List.set_cons_succ]
        refine wpZ_take (i := 2) (v := .iface ty pv) 27 rfl rfl (by kernel_rfl) (by kernel_rfl) (by kernel_rfl) (Or.inl (by kernel_rfl)) (fun _ _ _ h => h) (Or.inl ⟨by rfl, fun w hSw => by go_simp⟩) hp0 ?_
        simp only [Act.put, List.setIfInBounds_toArray]
        dsimp only [List.set_cons_zero, List.set_cons_succ]
        refine wpZ_take (i := 3) (v := .slice (some ⟨G, 0, none⟩) n n) 28 rfl rfl (by kernel_rfl) (by kernel_rfl) (by kernel_rfl) (Or.inl (by kernel_rfl)) (fun _ _ _ h => h) (Or.inl ⟨by rfl, fun w hSw => by go_simp⟩) hp0 ?_
        simp only [Act.put, List.setIfInBounds_toArray]
        dsimp only [List.set_cons_zero, List.set_cons_succ]
        refine wpZ_take (i := 4) (v := .int .i64 (k : Int)) 29 rfl rfl (by kernel_rfl) (by kernel_rfl) (by kernel_rfl) (Or.inl (by kernel_rfl)) (fun _ _ _ h => h) (Or.inl ⟨by rfl, fun w hSw => by go_simp⟩) hp0 ?_
        simp only [Act.put, List.setIfInBounds_toArray]
        dsimp only [List.set_cons_zero, List.set_cons_succ]
        refine wpZ_take (i := 5) (v := .slice (some ⟨G, 0, none⟩) k n) 30 rfl rfl (by kernel_rfl) (by kernel_rfl) (by kernel_rfl) (Or.inl (by kernel_rfl)) (fun _ _ _ h => h) (Or.inl ⟨by rfl, fun w hSw => by go_simp⟩) hp0 ?_
        simp only [Act.put, List.setIfInBounds_toArray]
        dsimp only [List.set_cons_zero, List.set_cons_succ]
        refine wpZ_take (i := 6) (v := .func (.method "sigil/expr.degree") #[.iface ty pv] #[]) 31 rfl rfl (by kernel_rfl) (by kernel_rfl) (by kernel_rfl) (Or.inl (by kernel_rfl)) (fun _ _ _ h => h) (Or.inl ⟨by rfl, fun w hSw => by go_simp⟩) hp0 ?_
        simp only [Act.put, List.setIfInBounds_toArray]
        dsimp only [List.set_cons_zero, List.set_cons_succ]
        refine wpZ_take (i := 7) (v := .func (.method "sigil/expr.degree") #[.iface ty pv] #[]) 32 rfl rfl (by kernel_rfl) (by kernel_rfl) (by kernel_rfl) (Or.inl (by kernel_rfl)) (fun _ _ _ h => h) (Or.inl ⟨by rfl, fun w hSw => by go_simp⟩) hp0 ?_
        simp only [Act.put, List.setIfInBounds_toArray]
        dsimp only [List.set_cons_zero, List.set_cons_succ]
        refine wpZ_take (i := 8) (v := .iface ty pv) 33 rfl rfl (by kernel_rfl) (by kernel_rfl) (by kernel_rfl) (Or.inl (by kernel_rfl)) (fun _ _ _ h => h) (Or.inl ⟨by rfl, fun w hSw => by go_simp⟩) hp0 ?_
        simp only [Act.put, List.setIfInBounds_toArray]
        dsimp only [List.set_cons_zero, List.set_cons_succ]
        refine wpZ_one (i := 9) (by kernel_rfl) rfl (fun K hK => ?_)
        go_simp
        refine (HCC.out wD _ (dgs T k) HRG.out (HZS.out wD hp0)).mono ?_
        rintro e w5 ⟨rfl, hb5⟩
        have hp5 := hp0.belowAll hb5; have hlow5 := bStep hlow0 hb5
        clear fm fna fcl
        go_wp2_with fail
        refine hK.out _ _ (fun _ => hp5) ?_
        clear hK K
        refine wpZ_take (i := 10) (v := .pointer (some ⟨G, k, none⟩)) 35 rfl rfl (by kernel_rfl) (by kernel_rfl) (by kernel_rfl) (Or.inl (by kernel_rfl)) (fun _ _ _ h => h) (Or.inl ⟨by rfl, fun w hSw => by go_simp⟩) hp5 ?_
        simp only [Act.put, List.setIfInBounds_toArray]
        dsimp only [List.set_cons_zero, List.set_cons_succ]
        refine wpZ_one (i := 11) (by kernel_rfl) rfl (fun K hK => ?_)
        have cG := hp5.cell k hlt 0 (by decide)
        have fG := hp5.frozen
        rw [Nat.mul_one, Nat.add_zero] at cG
        have boN := hp5.set k 0 k hlt (by decide) (by omega) (.int .i64 (dstep (T k) (dgs T k)))
        have boF : BlkR (w5.setCell ⟨G, k, none⟩ (.int .i64 (dstep (T k) (dgs T k)))) 3 G 1 n (fun i _ => .int .i64 (dgs T (k + 1) i)) := boN.congr (fun i _ j hj => by
          have hj0 : j = 0 := by omega
          subst hj0
          show Value.int .i64 (if i = k then dstep (T k) (dgs T k) else dgs T k i) = _
          by_cases h1 : i = k
          · rw [if_pos h1, if_pos ⟨h1, rfl⟩]
          · rw [if_neg h1, if_neg (fun h => h1 h.1)])
        have hbF : Below w1.heap.size w1 (w5.setCell ⟨G, k, none⟩ (.int .i64 (dstep (T k) (dgs T k)))) := hlow5.setCell lG _
        have HBF : Hid (BlkR (w5.setCell ⟨G, k, none⟩ (.int .i64 (dstep (T k) (dgs T k)))) 3 G 1 n (fun i _ => .int .i64 (dgs T (k + 1) i))) := boF
        clear boN boF
        go_simp
        refine hK.out _ _ (fun h => absurd rfl h) ?_
        clear hK K cG fG hp5 hp0 hlow0 hlow5 hb5
        refine wpZ_done (by kernel_rfl) ?_ _
        go_wp2
        go_roundw
        case measure => simp [intOf]; omega
        case rel => exact ⟨k + 1, by go_num, by omega, hbF, HBF.out⟩
      · have hki : ¬ (k : Int) < (n : Int) := by omega
        have ek : k = n := by omega
        have HBF : Hid (BlkR wr 3 G 1 n (fun i _ => .int .i64 (dgs T n i))) := by rw [ek] at bo; exact bo
        have HFIN : Hid (Below w.heap.size w wr) := hb1.trans (hbr.mono hb1.size)
        have HLG : Hid (w.heap.size ≤ G) := Nat.le_trans hb1.size lG
        clear bo ek hbr
        go_wp2
        go_ret
        exact ⟨Or.inl ⟨HOR.out, G, rfl, HLG.out, HBF.out⟩, HFIN.out⟩
  · obtain ⟨ho, rfl⟩ := hh
    clear HORD
    go_wp2
    go_ret
    exact ⟨Or.inr ⟨ho, rfl⟩, hb1⟩

end Go.Proofs.YtimjgebiffemnaaDoor
