/- LookupOrders: the arithmetic of the orders; count. -/
import Derived.Test.YtobeeoelfmfpdaaDoorTLUD
namespace Go.Proofs.YtobeeoelfmfpdaaDoor
open Go.RowKit
/-- The first ones of their values among the first places. -/
def fsl (a : List Nat) : Nat → List Nat
  | 0 => []
  | j + 1 => fsl a j ++ (if isF a j = true then [a.getD j 0] else [])
theorem fsl_first {a : List Nat} {j : Nat} (h : isF a j = true) : fsl a (j + 1) = fsl a j ++ [a.getD j 0] := by
  show fsl a j ++ (if isF a j = true then _ else _) = _
  rw [if_pos h]
theorem fsl_other {a : List Nat} {j : Nat} (h : isF a j = false) : fsl a (j + 1) = fsl a j := by
  show fsl a j ++ (if isF a j = true then _ else _) = _
  rw [if_neg (by rw [h]; decide), List.append_nil]
theorem fsl_mem {a : List Nat} {v : Nat} : ∀ j, v ∈ fsl a j → ∃ k, k < j ∧ a.getD k 0 = v
  | 0, h => by cases h
  | j + 1, h => by
    cases hf : isF a j
    · rw [fsl_other hf] at h
      obtain ⟨k, hk, e⟩ := fsl_mem j h
      exact ⟨k, by omega, e⟩
    · rw [fsl_first hf] at h
      rcases List.mem_append.1 h with h | h
      · obtain ⟨k, hk, e⟩ := fsl_mem j h
        exact ⟨k, by omega, e⟩
      · exact ⟨j, by omega, (List.mem_singleton.1 h).symm⟩
theorem wo_perm {a t : List Nat} : ∀ (j : Nat) {l : List Nat}, wo a t j = some l → t.Perm (fsl a j ++ l)
  | 0, l, h => by cases h; exact List.Perm.refl _
  | j + 1, l, h => by
    obtain ⟨m, hm, h1⟩ := Option.bind_eq_some_iff.1 h
    have ih := wo_perm j hm
    cases hf : isF a j
    · rw [if_neg (by rw [hf]; decide)] at h1
      cases h1
      rw [fsl_other hf]; exact ih
    · rw [if_pos hf] at h1
      by_cases hi : a.getD j 0 ∈ m
      · rw [if_pos hi] at h1
        cases h1
        rw [fsl_first hf, List.append_assoc]
        exact ih.trans ((List.perm_cons_erase hi).append_left _)
      · rw [if_neg hi] at h1; cases h1
theorem mt_perm (a t : List Nat) : ∀ j, nf a j ≤ t.length → (fl j (mtF a t)).Perm (fsl a j ++ t.take (nf a j))
  | 0, _ => by show (fl 0 _).Perm ([] ++ t.take 0); rw [List.take_zero]; exact List.Perm.refl _
  | j + 1, h => by
    have hm := nf_mono a j (j + 1) (by omega)
    have ih := mt_perm a t j (by omega)
    rw [fl_succ]
    cases hf : isF a j
    · rw [fsl_other hf, nf_other hf, mtF_other hf]
      rw [nf_other hf] at h
      have e : t.take (nf a j + 1) = t.take (nf a j) ++ [t.getD (nf a j) 0] := by
        rw [List.take_add_one, List.getD_eq_getElem?_getD, List.getElem?_eq_getElem (by omega)]
        rfl
      rw [e, ← List.append_assoc]
      exact ih.append_right _
    · rw [fsl_first hf, nf_first hf, mtF_first hf]
      refine (ih.append_right _).trans ?_
      rw [List.append_assoc, List.append_assoc]
      exact (List.perm_append_comm).append_left _
/-- Matched are the tables. -/
theorem mt_all {a t0 t : List Nat} (hl : a.length = t0.length) (h : wo a t0 a.length = some t) : (fl a.length (mtF a t)).Perm t0 := by
  have h1 := wo_len _ h
  have h2 : t.length = nf a a.length := by omega
  have h3 := mt_perm a t a.length (by omega)
  rw [← h2, List.take_length] at h3
  exact h3.trans (wo_perm _ h).symm
/-- Each sorted one is the matched one beside it, or the sorted one ahead. -/
theorem mt_beside {a t : List Nat} {i : Nat} (h : mtF a t i ≠ a.getD i 0) : i ≠ 0 ∧ a.getD i 0 = a.getD (i - 1) 0 := by
  cases hf : isF a i
  · unfold isF at hf
    simp only [Bool.or_eq_false_iff, Bool.not_eq_eq_eq_not, Bool.not_false, decide_eq_false_iff_not, decide_eq_true_eq] at hf
    exact hf
  · exact absurd (mtF_first hf) h
/-- What can't be taken away isn't there. -/
theorem wo_miss {a t : List Nat} (ha : Asc a) : ∀ n, n ≤ a.length → wo a t n = none → ∃ i, i < n ∧ ¬ a.getD i 0 ∈ t
  | 0, _, h => by cases h
  | n + 1, hn, h => by
    cases hw : wo a t n with
    | none =>
      obtain ⟨i, hi, e⟩ := wo_miss ha n (by omega) hw
      exact ⟨i, by omega, e⟩
    | some l =>
      cases hf : isF a n
      · rw [wo_next_skip hw hf] at h; cases h
      · by_cases hm : a.getD n 0 ∈ l
        · rw [wo_next_in hw hf hm] at h; cases h
        · refine ⟨n, by omega, fun ht => ?_⟩
          rcases List.mem_append.1 ((wo_perm n hw).mem_iff.1 ht) with h1 | h1
          · obtain ⟨k, hk, e⟩ := fsl_mem n h1
            have hn0 : n ≠ 0 := by omega
            unfold isF at hf
            rw [decide_eq_false hn0, Bool.false_or, Bool.not_eq_eq_eq_not, Bool.not_true, decide_eq_false_iff_not] at hf
            have l1 := asc_at ha (show k ≤ n - 1 by omega) (by omega)
            have l2 := asc_at ha (show n - 1 ≤ n by omega) (by omega)
            omega
          · exact hm h1
/-- How often an element is among the first ones. -/
def cnt (s : Nat) (f : Nat → Nat) (v : Nat) : Nat → Nat
  | 0 => 0
  | k + 1 => cnt s f v k + (if decide (subP s (f k) v = 0) = true then 1 else 0)
theorem cnt_le (s : Nat) (f : Nat → Nat) (v : Nat) : ∀ k, cnt s f v k ≤ k
  | 0 => Nat.le_refl _
  | k + 1 => by have := cnt_le s f v k; unfold cnt; split <;> omega
theorem cnt_list (s : Nat) (f : Nat → Nat) (v : Nat) : ∀ k, cnt s f v k = (fl k fun i => addP s (f i) 0).count (v % modN s)
  | 0 => rfl
  | k + 1 => by
    rw [fl_succ, List.count_append, List.count_singleton, ← cnt_list s f v k]
    show cnt s f v k + _ = _
    congr 1
    by_cases h : f k % modN s = v % modN s
    · rw [if_pos (by simpa using (subP_zero s (f k) v).2 h), if_pos (by simp [addP, h])]
    · rw [if_neg (by simpa using fun e => h ((subP_zero s (f k) v).1 e)), if_neg (by simpa [addP] using h)]
theorem cnt_perm {s n v : Nat} {f g : Nat → Nat} (h : (fl n fun i => addP s (f i) 0).Perm (fl n fun i => addP s (g i) 0)) : cnt s f v n = cnt s g v n := by
  rw [cnt_list, cnt_list, h.count_eq]
set_option maxHeartbeats 2000000 in
set_option maxRecDepth 20000 in
/-- sigillaw17.count. -/
theorem count_any (s n cn v : Nat) (oa : Option Addr) (f : Nat → Nat) (hs : s < 4) (hn : n ≤ 1000000) (hv : v < 115792089237316195423570985008687907853269984665640564039457584007913129639936) (hf : ∀ i, i < n → f i < 115792089237316195423570985008687907853269984665640564039457584007913129639936) (w : World) (hg : Glob w) (he : Es w (.slice oa n cn) n f) :
    Calls Tryd.prog 23 #[.int .i64 (s : Int), .slice oa n cn, .agg #[.int .u64 ((limb 0 (v) : Nat) : Int), .int .u64 ((limb 1 (v) : Nat) : Int), .int .u64 ((limb 2 (v) : Nat) : Int), .int .u64 ((limb 3 (v) : Nat) : Int)]] w fun e w' => e = .returned (.int .i64 ((cnt s f v n : Nat) : Int)) ∧ Below w.heap.size w w' := by
  have HSUB : Hid (∀ a, a < 115792089237316195423570985008687907853269984665640564039457584007913129639936 → ∀ w, Glob w → Calls Tryd.prog 24 #[.int .i64 (s : Int), .agg #[.int .u64 ((limb 0 (a) : Nat) : Int), .int .u64 ((limb 1 (a) : Nat) : Int), .int .u64 ((limb 2 (a) : Nat) : Int), .int .u64 ((limb 3 (a) : Nat) : Int)], .agg #[.int .u64 ((limb 0 (v) : Nat) : Int), .int .u64 ((limb 1 (v) : Nat) : Int), .int .u64 ((limb 2 (v) : Nat) : Int), .int .u64 ((limb 3 (v) : Nat) : Int)]] w fun e w' => e = .returned (.agg #[.int .u64 ((limb 0 (subP s a v) : Nat) : Int), .int .u64 ((limb 1 (subP s a v) : Nat) : Int), .int .u64 ((limb 2 (subP s a v) : Nat) : Int), .int .u64 ((limb 3 (subP s a v) : Nat) : Int)]) ∧ Below w.heap.size w w') := fun a ha w hg => fSub_any s a v hs ha hv w hg
  have HEQ : Hid (∀ a (w : World), (Op.equalIn 10000 24 (.agg #[.int .u64 ((limb 0 (subP s a v) : Nat) : Int), .int .u64 ((limb 1 (subP s a v) : Nat) : Int), .int .u64 ((limb 2 (subP s a v) : Nat) : Int), .int .u64 ((limb 3 (subP s a v) : Nat) : Int)]) (.agg #[.int .u64 0, .int .u64 0, .int .u64 0, .int .u64 0])).run Tryd.prog w = .ok (decide (subP s a v = 0)) w) := fun a w => eqlIn0 _ (subP_M _ _ _) w
  have HG : Hid (Glob w) := hg
  have HE : Hid (Es w (.slice oa n cn) n f) := he
  have HF : Hid (∀ i, i < n → f i < 115792089237316195423570985008687907853269984665640564039457584007913129639936) := hf
  have HLE : Hid (∀ k, cnt s f v k ≤ k) := cnt_le s f v
  clear hg he hf hs hv
  go_enter Tryd.func23, Tryd.ntmps23
  go_upto_region 3 with fail
  have hs1 : (w.alloc (.cells #[.int .u64 ((limb 0 (v) : Nat) : Int), .int .u64 ((limb 1 (v) : Nat) : Int), .int .u64 ((limb 2 (v) : Nat) : Int), .int .u64 ((limb 3 (v) : Nat) : Int)] 24)).heap.size = w.heap.size + 1 := Array.size_push ..
  obtain ⟨w0, hw0⟩ : ∃ z : World, z = (w.alloc (.cells #[.int .u64 ((limb 0 (v) : Nat) : Int), .int .u64 ((limb 1 (v) : Nat) : Int), .int .u64 ((limb 2 (v) : Nat) : Int), .int .u64 ((limb 3 (v) : Nat) : Int)] 24)).alloc (.cells #[.int .u64 0, .int .u64 0, .int .u64 0, .int .u64 0] 24) := ⟨_, rfl⟩
  obtain ⟨N5, e5⟩ : ∃ z, z = w.heap.size := ⟨_, rfl⟩
  obtain ⟨N8, e8⟩ : ∃ z, z = N5 + 1 := ⟨_, rfl⟩
  have b5 : Blk w0 24 N5 (fun i => limb i v) := by rw [hw0]; exact (Blk.newAt _ _ _ (fun i => limb i v) e5).alloc _
  have b8 : Blk w0 24 N8 (fun _ => 0) := by rw [hw0]; exact Blk.newAt _ _ _ (fun _ => 0) (by rw [e8, e5, hs1])
  have hb0 : Below w.heap.size w w0 := by rw [hw0]; exact bAlloc (bAlloc (Below.refl _ _) _) _
  rw [← hw0]
  try rw [← e5]
  try rw [← e8]
  clear hw0 hs1 e5 e8
  go_wp2
  go_loopw [7, 9] (fun cv iv wr => ∃ j c : Nat, iv = .int .i64 (j : Int) ∧ cv = .int .i64 (c : Int) ∧ j ≤ n ∧ Hid (c = cnt s f v j) ∧ Below w.heap.size w wr ∧ Blk wr 24 N5 (fun i => limb i v) ∧ Blk wr 24 N8 (fun _ => 0)) (fun _ iv _ => n - (intOf iv).toNat)
  case atStart => exact ⟨0, 0, rfl, rfl, Nat.zero_le _, rfl, hb0, b5, b8⟩
  case round =>
    obtain ⟨j, c, rfl, rfl, hj, hc, hbr, p5, p8⟩ := hrel
    clear b5 b8 hb0
    by_cases hlt : j < n
    · have hji : (j : Int) < (n : Int) := by omega
      have hcj : c ≤ j := by rw [hc.out]; exact HLE.out j
      rcases HE.out.open with ⟨_, h0, _⟩ | ⟨ab, ao, rfl, _, _, lab, hcl⟩
      · omega
      have labr : ab < wr.heap.size := Nat.lt_of_lt_of_le lab hbr.size
      have x0 := (hbr.cell (p := ⟨ab, ao + j * 4 + 0, none⟩) lab).trans (hcl j (by omega) 0 (by decide)); have x1 := (hbr.cell (p := ⟨ab, ao + j * 4 + 1, none⟩) lab).trans (hcl j (by omega) 1 (by decide)); have x2 := (hbr.cell (p := ⟨ab, ao + j * 4 + 2, none⟩) lab).trans (hcl j (by omega) 2 (by decide)); have x3 := (hbr.cell (p := ⟨ab, ao + j * 4 + 3, none⟩) lab).trans (hcl j (by omega) 3 (by decide))
      rw [Nat.add_zero] at x0
      have hS := HSUB.out (f j) (HF.out j hlt)
      have hQ := HEQ.out (f j)
      have hC : cnt s f v (j + 1) = cnt s f v j + (if decide (subP s (f j) v = 0) = true then 1 else 0) := rfl
      rw [← hc.out] at hC
      obtain ⟨D, eD⟩ : ∃ z, z = subP s (f j) v := ⟨_, rfl⟩
      rw [← eD] at hS hQ hC
      obtain ⟨b, eb⟩ : ∃ z, z = decide (D = 0) := ⟨_, rfl⟩
      rw [← eb] at hQ hC
      obtain ⟨x, ex⟩ : ∃ z, z = f j := ⟨_, rfl⟩
      rw [← ex] at hS x0 x1 x2 x3
      have HSB : Hid (∀ w, Glob w → _) := hS
      have HE1 : Hid (∀ w : World, _) := hQ
      have HCN : Hid (cnt s f v (j + 1) = c + (if b = true then 1 else 0)) := hC
      clear hS hQ hC eD eb ex hcl lab hc
      go_upto_region 6 with fail
      refine wp_region_Z (fun w' => Below wr.heap.size wr w') 99 (by kernel_rfl) ?_
      obtain ⟨wD, hD⟩ : ∃ z : World, z = wr.drew := ⟨_, rfl⟩
      rw [← hD]
      have hp0 : Below wr.heap.size wr wD := by rw [hD]; exact (Below.refl _ _).drew
      clear hD
      refine zt 0 17 (.int .i64 (s : Int)) rfl rfl (fun w hSw => by go_simp) hp0 ?_
      simp only [Act.put, List.setIfInBounds_toArray]
      (try dsimp only [List.set_cons_zero, List.set_cons_succ])
      refine zt 1 18 (.slice (some ⟨ab, ao, none⟩) n cn) rfl rfl (fun w hSw => by go_simp) hp0 ?_
      simp only [Act.put, List.setIfInBounds_toArray]
      (try dsimp only [List.set_cons_zero, List.set_cons_succ])
      refine zt 2 19 (.int .i64 (j : Int)) rfl rfl (fun w hSw => by go_simp) hp0 ?_
      simp only [Act.put, List.setIfInBounds_toArray]
      (try dsimp only [List.set_cons_zero, List.set_cons_succ])
      refine zt 3 20 (.pointer (some ⟨ab, ao + j * 4, none⟩)) rfl rfl (fun w hSw => by go_simp) hp0 ?_
      simp only [Act.put, List.setIfInBounds_toArray]
      (try dsimp only [List.set_cons_zero, List.set_cons_succ])
      refine zt 4 21 (.agg #[.int .u64 ((limb 0 (x) : Nat) : Int), .int .u64 ((limb 1 (x) : Nat) : Int), .int .u64 ((limb 2 (x) : Nat) : Int), .int .u64 ((limb 3 (x) : Nat) : Int)]) rfl rfl (fun w hSw => by (have q0 := ((hSw).cell (p := ⟨ab, ao + j * 4, none⟩) labr).trans x0; have q1 := ((hSw).cell (p := ⟨ab, ao + j * 4 + 1, none⟩) labr).trans x1; have q2 := ((hSw).cell (p := ⟨ab, ao + j * 4 + 2, none⟩) labr).trans x2; have q3 := ((hSw).cell (p := ⟨ab, ao + j * 4 + 3, none⟩) labr).trans x3); clear hSw; go_simp) hp0 ?_
      simp only [Act.put, List.setIfInBounds_toArray]
      (try dsimp only [List.set_cons_zero, List.set_cons_succ])
      refine zt 5 22 (.agg #[.int .u64 ((limb 0 (v) : Nat) : Int), .int .u64 ((limb 1 (v) : Nat) : Int), .int .u64 ((limb 2 (v) : Nat) : Int), .int .u64 ((limb 3 (v) : Nat) : Int)]) rfl rfl (fun w hSw => by (have qq := (p5.belowAll hSw).cell); clear hSw; go_simp) hp0 ?_
      simp only [Act.put, List.setIfInBounds_toArray]
      (try dsimp only [List.set_cons_zero, List.set_cons_succ])
      refine zt 7 24 (.agg #[.int .u64 0, .int .u64 0, .int .u64 0, .int .u64 0]) rfl rfl (fun w hSw => by (have qq := (p8.belowAll hSw).cell); clear hSw; go_simp) hp0 ?_
      simp only [Act.put, List.setIfInBounds_toArray]
      (try dsimp only [List.set_cons_zero, List.set_cons_succ])
      refine wpZ_one (i := 6) (by kernel_rfl) rfl (fun K hK => ?_)
      go_simp
      refine Calls.mono (HSB.out wD (HG.out.below (hbr.trans ((hp0).mono hbr.size)))) ?_
      rintro e wK1 ⟨rfl, hbK1⟩
      have hpK1 : Below wr.heap.size wr wK1 := bStep hp0 hbK1
      clear hbK1
      go_wp2_with fail
      refine hK.out _ _ (fun _ => hpK1) ?_
      clear hK K
      refine zt 8 25 (.bool b) rfl rfl (fun w hSw => by have hq := HE1.out w; clear hSw; go_simp) hpK1 ?_
      simp only [Act.put, List.setIfInBounds_toArray]
      (try dsimp only [List.set_cons_zero, List.set_cons_succ])
      refine wpZ_done (by kernel_rfl) ?_ _
      have hbx := hbr.trans (hpK1.mono hbr.size)
      have r5 := p5.belowAll hpK1; have r8 := p8.belowAll hpK1
      clear p5 p8 hbr x0 x1 x2 x3
      cases b
      · rw [if_neg (by decide)] at HCN
        go_wp2
        go_roundw
        case measure => simp [intOf]; omega
        case rel => exact ⟨j + 1, _, by go_num, rfl, by omega, HCN.out.symm, hbx, r5, r8⟩
      · rw [if_pos rfl] at HCN
        go_wp2
        go_roundw
        case measure => simp [intOf]; omega
        case rel => exact ⟨j + 1, c + 1, by go_num, by go_num, by omega, HCN.out.symm, hbx, r5, r8⟩
    · have hji : ¬ (j : Int) < (n : Int) := by omega
      obtain rfl : j = n := by omega
      clear p5 p8
      go_wp2
      go_ret
      exact ⟨by rw [hc.out]; rfl, hbr⟩
end Go.Proofs.YtobeeoelfmfpdaaDoor
