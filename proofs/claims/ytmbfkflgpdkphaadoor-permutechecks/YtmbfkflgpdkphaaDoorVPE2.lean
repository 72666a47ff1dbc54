/- Both Checks (permute) where all fits, with one list. -/
import Derived.Test.YtmbfkflgpdkphaaDoorVPE1
import Derived.Test.YtmbfkflgpdkphaaDoorVPC8
namespace Go.Proofs.YtmbfkflgpdkphaaDoor
open Go.RowKit
/-- A chunk's length. -/
def kL (n j : Nat) : Nat := min (2 * j + 2) n - 2 * j
/-- A step's number. -/
def stK (s be ga x us n : Nat) (A D At Nx : Nat → Nat) (j : Nat) : Nat :=
  mulP s us (subP s (mulP s (Nx j) (pW s (fun i => lbP s be ga (A (2 * j + i)) (D (2 * j + i))) (kL n j))) (mulP s (At j) (pW s (fun i => lbP s be ga (A (2 * j + i)) (mulP s (stP s (dP s) (2 * j + i)) x)) (kL n j))))
/-- What Checks answers. -/
def ckL (s be ga x fi la us n m : Nat) (A D At Nx La : Nat → Nat) : List Nat :=
  zL (jP s fi At La) (m - 1) ++ [jE s la (At (m - 1))] ++ (List.range m).map (stK s be ga x us n A D At Nx)
theorem jP_M (s fi : Nat) (At La : Nat → Nat) (j : Nat) : jP s fi At La j < 115792089237316195423570985008687907853269984665640564039457584007913129639936 := by
  cases j with
  | zero => exact mulP_M _ _ _
  | succ j => exact mulP_M _ _ _
theorem CelK.sub {w : World} {b n f k : Nat} {A B D : Nat → Nat} (h : CelK w b n A B D) (hk : f + k ≤ n) : CelS w b (f * 12) k (fun i => A (f + i)) (fun i => B (f + i)) (fun i => D (f + i)) := by
  have hs := h.celS
  refine ⟨hs.1, fun i hi => ?_⟩
  obtain ⟨h1, h2, h3⟩ := hs.2 (f + i) (by omega)
  refine ⟨fun j hj => ?_, fun j hj => ?_, fun j hj => ?_⟩
  · rw [show f * 12 + i * 12 + j = 0 + (f + i) * 12 + j by omega]; exact h1 j hj
  · rw [show f * 12 + i * 12 + 4 + j = 0 + (f + i) * 12 + 4 + j by omega]; exact h2 j hj
  · rw [show f * 12 + i * 12 + 8 + j = 0 + (f + i) * 12 + 8 + j by omega]; exact h3 j hj
set_option maxHeartbeats 1000000 in
/-- permute.Checks where all fits. -/
theorem pchks_in (s n m ca ab ao cb bb bo cz zb zo x fi la us be ga : Nat) (sp : Array Value) (A D At Nx La : Nat → Nat) (hs : s < 4) (hn : 0 < n ∧ n ≤ 1000) (hm : m = (n + 1) / 2) (hmz : m ≤ cz) (hS : SpV sp x fi la us) (hx : x < 115792089237316195423570985008687907853269984665640564039457584007913129639936) (hfi : fi < 115792089237316195423570985008687907853269984665640564039457584007913129639936) (hla : la < 115792089237316195423570985008687907853269984665640564039457584007913129639936) (hus : us < 115792089237316195423570985008687907853269984665640564039457584007913129639936) (hbe : be < 115792089237316195423570985008687907853269984665640564039457584007913129639936) (hga : ga < 115792089237316195423570985008687907853269984665640564039457584007913129639936)
    (hAM : ∀ i, i < n → A i < 115792089237316195423570985008687907853269984665640564039457584007913129639936) (hDM : ∀ i, i < n → D i < 115792089237316195423570985008687907853269984665640564039457584007913129639936) (hTM : ∀ i, i < m → At i < 115792089237316195423570985008687907853269984665640564039457584007913129639936) (hNM : ∀ i, i < m → Nx i < 115792089237316195423570985008687907853269984665640564039457584007913129639936) (hLM : ∀ i, i < m → La i < 115792089237316195423570985008687907853269984665640564039457584007913129639936) (w : World) (hg : Glob w) (hc : CelS w zb zo m At Nx La)
    (lA : ab < w.heap.size) (hA : ∀ i, i < n → ∀ j, j < 4 → w.cell? ⟨ab, ao + i * 4 + j, none⟩ = some (.int .u64 ((limb j (A i) : Nat) : Int))) (lB : bb < w.heap.size) (hB : ∀ i, i < n → ∀ j, j < 4 → w.cell? ⟨bb, bo + i * 4 + j, none⟩ = some (.int .u64 ((limb j (D i) : Nat) : Int))) :
    Calls Tryd.prog 10 #[.int .i64 (s : Int), .agg sp, .slice (some ⟨ab, ao, none⟩) n ca, .slice (some ⟨bb, bo, none⟩) n cb, .slice (some ⟨zb, zo, none⟩) m cz, .agg #[.int .u64 ((limb 0 (be) : Nat) : Int), .int .u64 ((limb 1 (be) : Nat) : Int), .int .u64 ((limb 2 (be) : Nat) : Int), .int .u64 ((limb 3 (be) : Nat) : Int)], .agg #[.int .u64 ((limb 0 (ga) : Nat) : Int), .int .u64 ((limb 1 (ga) : Nat) : Int), .int .u64 ((limb 2 (ga) : Nat) : Int), .int .u64 ((limb 3 (ga) : Nat) : Int)]] w fun e w' => (∃ v, e = .returned v ∧ OwnL w' w.heap.size v (ckL s be ga x fi la us n m A D At Nx La)) ∧ Below w.heap.size w w' := by
  have hm0 : 0 < m ∧ m ≤ 1000 := by omega
  have hkl : ∀ j, j < m → 2 * j + kL n j ≤ n ∧ kL n j ≤ 1000 ∧ 2 * j < n := fun j hj => by unfold kL; omega
  refine chks_ok (s : Int) sp _ _ _ n m ca cb cz be ga (zL (jP s fi At La) (m - 1) ++ [jE s la (At (m - 1))]) (stK s be ga x us n A D At Nx) (stP s (dP s)) hn hm (by rw [List.length_append, zL_len]; simp; omega) hS.1 w hg (fun w hg => argof_any s n be ga hs hn.2 w hg)
    (fun w' hg' hb => joints_any s m cz zb zo x fi la us sp At Nx La hs hm0 hmz hS hfi hla hTM hLM w' hg' (hc.below hb hc.1)) (fun g w' hg' hb hst => ?_)
  have hag : ∀ g, AgP #[.int .i64 (s : Int), .int .u64 ((limb 0 be : Nat) : Int), .int .u64 ((limb 1 be : Nat) : Int), .int .u64 ((limb 2 be : Nat) : Int), .int .u64 ((limb 3 be : Nat) : Int), .int .u64 ((limb 0 ga : Nat) : Int), .int .u64 ((limb 1 ga : Nat) : Int), .int .u64 ((limb 2 ga : Nat) : Int), .int .u64 ((limb 3 ga : Nat) : Int), .slice (some ⟨g, 0, none⟩) n n] (s : Int) be ga (.slice (some ⟨g, 0, none⟩) n n) := fun g => ⟨rfl, rfl, ⟨rfl, rfl, rfl, rfl⟩, ⟨rfl, rfl, rfl, rfl⟩, rfl⟩
  refine steps_walk (s : Int) n m ca ab ao cb bb bo cz zb zo x fi la us be ga _ _ sp A (fun i => mulP s (stP s (dP s) i) x) D At Nx La (fun j => mulP s (Nx j) (pW s (fun i => lbP s be ga (A (2 * j + i)) (D (2 * j + i))) (kL n j))) (fun j => mulP s (At j) (pW s (fun i => lbP s be ga (A (2 * j + i)) (mulP s (stP s (dP s) (2 * j + i)) x)) (kL n j)))
    (fun j => pW s (fun i => lbP s be ga (A (2 * j + i)) (D (2 * j + i))) (kL n j)) (fun j => pW s (fun i => lbP s be ga (A (2 * j + i)) (mulP s (stP s (dP s) (2 * j + i)) x)) (kL n j))
    (fun j => subP s (mulP s (Nx j) (pW s (fun i => lbP s be ga (A (2 * j + i)) (D (2 * j + i))) (kL n j))) (mulP s (At j) (pW s (fun i => lbP s be ga (A (2 * j + i)) (mulP s (stP s (dP s) (2 * j + i)) x)) (kL n j))))
    (stK s be ga x us n A D At Nx) (fun j => 2 * j * 12) (kL n) (fun j => n - 2 * j) hm0.2 (hag g) hS w' hg' (hc.below hb hc.1)
    (fun w2 hg2 hb2 => cells_any s n n n ca cb ab ao bb bo g x _ be ga (stP s (dP s)) A D hs (Nat.le_refl _) hn.2 (hag g) hx (stP_M s _) w2 hg2 (hst.belowAll hb2) ?_ (fun i hi j hj => ?_) ?_ (fun i hi j hj => ?_))
    (fun G j hj w => chunk_any G n j (2 * j) (min (2 * j + 2) n) hn.2 rfl (hkl j hj).2.2 rfl w)
    (fun G j hj w hg hK => byNext_any s G (2 * j * 12) (kL n j) (n - 2 * j) _ be ga _ (fun i => A (2 * j + i)) (fun i => mulP s (stP s (dP s) (2 * j + i)) x) (fun i => D (2 * j + i)) hs (hkl j hj).2.1 (hag g) hbe hga (fun i hi => hAM _ (by have := (hkl j hj).1; omega)) (fun i hi => hDM _ (by have := (hkl j hj).1; omega)) w hg (hK.sub (hkl j hj).1))
    (fun G j hj w hg hK => byOwn_any s G (2 * j * 12) (kL n j) (n - 2 * j) _ be ga _ (fun i => A (2 * j + i)) (fun i => mulP s (stP s (dP s) (2 * j + i)) x) (fun i => D (2 * j + i)) hs (hkl j hj).2.1 (hag g) hbe hga (fun i hi => hAM _ (by have := (hkl j hj).1; omega)) (fun i hi => mulP_M _ _ _) w hg (hK.sub (hkl j hj).1))
    (fun j hj w hg => fMul_any s _ _ hs (hNM j hj) (pW_M _ _ _) w hg) (fun j hj w hg => fMul_any s _ _ hs (hTM j hj) (pW_M _ _ _) w hg) (fun j hj w hg => fSub_any s _ _ hs (mulP_M _ _ _) (mulP_M _ _ _) w hg) (fun j hj w hg => fMul_any s _ _ hs hus (subP_M _ _ _) w hg)
  · exact Nat.lt_of_lt_of_le lA (Nat.le_trans hb.size hb2.size)
  · exact ((hb2.cell (p := ⟨ab, ao + i * 4 + j, none⟩) (Nat.lt_of_lt_of_le lA hb.size)).trans (hb.cell (p := ⟨ab, ao + i * 4 + j, none⟩) lA)).trans (hA i hi j hj)
  · exact Nat.lt_of_lt_of_le lB (Nat.le_trans hb.size hb2.size)
  · exact ((hb2.cell (p := ⟨bb, bo + i * 4 + j, none⟩) (Nat.lt_of_lt_of_le lB hb.size)).trans (hb.cell (p := ⟨bb, bo + i * 4 + j, none⟩) lB)).trans (hB i hi j hj)
set_option maxHeartbeats 1000000 in
/-- The reference's Checks where all fits. -/
theorem rchks_in (s n m ca ab ao cb bb bo cz zb zo x fi la us be ga : Nat) (sp : Array Value) (A D At Nx La : Nat → Nat) (hs : s < 4) (hn : 0 < n ∧ n ≤ 1000) (hm : m = (n + 1) / 2) (hS : SpV sp x fi la us) (hx : x < 115792089237316195423570985008687907853269984665640564039457584007913129639936) (hfi : fi < 115792089237316195423570985008687907853269984665640564039457584007913129639936) (hla : la < 115792089237316195423570985008687907853269984665640564039457584007913129639936) (hus : us < 115792089237316195423570985008687907853269984665640564039457584007913129639936) (hbe : be < 115792089237316195423570985008687907853269984665640564039457584007913129639936) (hga : ga < 115792089237316195423570985008687907853269984665640564039457584007913129639936)
    (hAM : ∀ i, i < n → A i < 115792089237316195423570985008687907853269984665640564039457584007913129639936) (hDM : ∀ i, i < n → D i < 115792089237316195423570985008687907853269984665640564039457584007913129639936) (hTM : ∀ i, i < m → At i < 115792089237316195423570985008687907853269984665640564039457584007913129639936) (hNM : ∀ i, i < m → Nx i < 115792089237316195423570985008687907853269984665640564039457584007913129639936) (hLM : ∀ i, i < m → La i < 115792089237316195423570985008687907853269984665640564039457584007913129639936) (w : World) (hc : CelS w zb zo m At Nx La)
    (lA : ab < w.heap.size) (hA : ∀ i, i < n → ∀ j, j < 4 → w.cell? ⟨ab, ao + i * 4 + j, none⟩ = some (.int .u64 ((limb j (A i) : Nat) : Int))) (lB : bb < w.heap.size) (hB : ∀ i, i < n → ∀ j, j < 4 → w.cell? ⟨bb, bo + i * 4 + j, none⟩ = some (.int .u64 ((limb j (D i) : Nat) : Int))) :
    Calls Tryd.prog 12 #[.int .i64 (s : Int), .agg sp, .slice (some ⟨ab, ao, none⟩) n ca, .slice (some ⟨bb, bo, none⟩) n cb, .slice (some ⟨zb, zo, none⟩) m cz, .agg #[.int .u64 ((limb 0 (be) : Nat) : Int), .int .u64 ((limb 1 (be) : Nat) : Int), .int .u64 ((limb 2 (be) : Nat) : Int), .int .u64 ((limb 3 (be) : Nat) : Int)], .agg #[.int .u64 ((limb 0 (ga) : Nat) : Int), .int .u64 ((limb 1 (ga) : Nat) : Int), .int .u64 ((limb 2 (ga) : Nat) : Int), .int .u64 ((limb 3 (ga) : Nat) : Int)]] w fun e w' => (∃ v, e = .returned v ∧ OwnL w' w.heap.size v (ckL s be ga x fi la us n m A D At Nx La)) ∧ Below w.heap.size w w' := by
  have hm0 : 0 < m ∧ m ≤ 1000 := by omega
  obtain ⟨tn, etn⟩ : ∃ tn : Nat → Nat, tn = fun i => lbP s be ga (A i) (D i) := ⟨_, rfl⟩
  obtain ⟨tO, etO⟩ : ∃ tO : Nat → Nat, tO = fun i => lbP s be ga (A i) (mulP s (stP s (dP s) i) x) := ⟨_, rfl⟩
  have htn : ∀ i, tn i = lbP s be ga (A i) (D i) := fun i => by rw [etn]
  have htO : ∀ i, tO i = lbP s be ga (A i) (mulP s (stP s (dP s) i) x) := fun i => by rw [etO]
  have htM : ∀ i, tn i < 115792089237316195423570985008687907853269984665640564039457584007913129639936 ∧ tO i < 115792089237316195423570985008687907853269984665640564039457584007913129639936 := fun i => by rw [htn, htO]; exact ⟨lt_M s _ (addP_lt _ _ _), lt_M s _ (addP_lt _ _ _)⟩
  obtain ⟨pN, epN⟩ : ∃ pN : Nat → Nat → Nat, pN = fun j i => pF s (Nx j) (fun q => tn (2 * j + q)) (i - 2 * j) := ⟨_, rfl⟩
  obtain ⟨pO, epO⟩ : ∃ pO : Nat → Nat → Nat, pO = fun j i => pF s (At j) (fun q => tO (2 * j + q)) (i - 2 * j) := ⟨_, rfl⟩
  have hpN : ∀ j i, pN j i = pF s (Nx j) (fun q => tn (2 * j + q)) (i - 2 * j) := fun j i => by rw [epN]
  have hpO : ∀ j i, pO j i = pF s (At j) (fun q => tO (2 * j + q)) (i - 2 * j) := fun j i => by rw [epO]
  have hpM : ∀ j i, j < m → pN j i < 115792089237316195423570985008687907853269984665640564039457584007913129639936 ∧ pO j i < 115792089237316195423570985008687907853269984665640564039457584007913129639936 := fun j i hj => by rw [hpN, hpO]; exact ⟨pF_M _ _ _ (hNM j hj) _, pF_M _ _ _ (hTM j hj) _⟩
  have hN1 : ∀ j i, 2 * j ≤ i → pN j (i + 1) = mulP s (pN j i) (tn i) := fun j i hi => by
    rw [hpN, hpN, show i + 1 - 2 * j = (i - 2 * j) + 1 by omega]
    show mulP s _ (tn (2 * j + (i - 2 * j))) = _
    rw [show 2 * j + (i - 2 * j) = i by omega]
  have hO1 : ∀ j i, 2 * j ≤ i → pO j (i + 1) = mulP s (pO j i) (tO i) := fun j i hi => by
    rw [hpO, hpO, show i + 1 - 2 * j = (i - 2 * j) + 1 by omega]
    show mulP s _ (tO (2 * j + (i - 2 * j))) = _
    rw [show 2 * j + (i - 2 * j) = i by omega]
  have heq : (List.range m).map (fun j => mulP s us (subP s (pN j (min (2 * j + 2) n)) (pO j (min (2 * j + 2) n)))) = (List.range m).map (stK s be ga x us n A D At Nx) := by
    refine List.map_congr_left (fun j hj => ?_)
    have hj' : j < m := List.mem_range.1 hj
    obtain ⟨k, hk⟩ : ∃ k, kL n j = k + 1 := ⟨kL n j - 1, by unfold kL; omega⟩
    unfold stK
    rw [hpN, hpO, show min (2 * j + 2) n - 2 * j = kL n j from rfl, hk, pF_pW, pF_pW, etn, etO]
  unfold ckL
  rw [← heq]
  have h1M : (1 : Nat) < 115792089237316195423570985008687907853269984665640564039457584007913129639936 := by decide
  refine rchks_walk (s : Int) sp n m ca ab ao cb bb bo cz zb zo x fi la us be ga (At (m - 1)) (At 0) (subP s 1 (At 0)) (mulP s (At (m - 1)) (At (m - 1))) (subP s (mulP s (At (m - 1)) (At (m - 1))) (At (m - 1))) (jE s la (At (m - 1))) A D At Nx La (jP s fi At La) (fun j => subP s (At (j + 1)) (La j)) (fun j => min (2 * j + 2) n) tn tO (fun i => mulP s (stP s (dP s) i) x) (stP s (dP s))
    (fun j => subP s (pN j (min (2 * j + 2) n)) (pO j (min (2 * j + 2) n))) (fun j => mulP s us (subP s (pN j (min (2 * j + 2) n)) (pO j (min (2 * j + 2) n)))) pN pO (by omega) (by omega) hn hm hS rfl rfl (fun j hj => by show _ ≤ min _ _ ∧ min _ _ ≤ _; omega) (fun j => by rw [hpN, Nat.sub_self]; rfl) (fun j => by rw [hpO, Nat.sub_self]; rfl) w hc lA hA lB hB
    (fun w => ref2Sub_any s _ _ hs h1M (hTM 0 hm0.1) w) (fun w => ref2Mul_any s _ _ hs hfi (subP_M _ _ _) w) (fun i j hij hi w => ?_) (fun j hj w => ref2Mul_any s _ _ hs hfi (subP_M _ _ _) w)
    (fun w => ref2Mul_any s _ _ hs (hTM _ (by omega)) (hTM _ (by omega)) w) (fun w => ref2Sub_any s _ _ hs (mulP_M _ _ _) (hTM _ (by omega)) w) (fun w => ref2Mul_any s _ _ hs hla (subP_M _ _ _) w)
    (fun j hj w => rend_any j n (by omega) w) (fun i hi w => ?_) (fun i hi w => rshift_any s i hs (by omega) w) (fun i hi w => ref2Mul_any s _ _ hs (stP_M _ _ _) hx w) (fun i hi w => ?_)
    (fun j i hj h1 h2 w => ?_) (fun j i hj h1 h2 w => ?_) (fun j hj w => ref2Sub_any s _ _ hs (hpM j _ hj).1 (hpM j _ hj).2 w) (fun j hj w => ref2Mul_any s _ _ hs hus (subP_M _ _ _) w)
  · subst hij
    exact ref2Sub_any s _ _ hs (hTM _ hi) (hLM j (by omega)) w
  · rw [htn]; exact rterm_any s _ be _ ga hs (hAM i hi) hbe (hDM i hi) hga w
  · rw [htO]; exact rterm_any s _ be _ ga hs (hAM i hi) hbe (mulP_M _ _ _) hga w
  · rw [hN1 j i h1]; exact ref2Mul_any s _ _ hs (hpM j i hj).1 (htM i).1 w
  · rw [hO1 j i h1]; exact ref2Mul_any s _ _ hs (hpM j i hj).2 (htM i).2 w
/-- A list of chunks. -/
def Zs (w : World) (v : Value) (m : Nat) (At Nx La : Nat → Nat) : Prop :=
  (m = 0 ∧ ∃ o c, v = .slice o 0 c) ∨ ∃ b o c, v = .slice (some ⟨b, o, none⟩) m c ∧ m ≤ c ∧ CelS w b o m At Nx La
theorem Zs.below {w w' : World} {v : Value} {m : Nat} {At Nx La : Nat → Nat} (h : Zs w v m At Nx La) (hb : Below w.heap.size w w') : Zs w' v m At Nx La := by
  rcases h with h | ⟨b, o, c, h1, h2, h3⟩
  · exact Or.inl h
  · exact Or.inr ⟨b, o, c, h1, h2, h3.below hb h3.1⟩
/-- What Checks answers, whatever is handed in. -/
def ckA (si : Int) (be ga x fi la us n nb m : Nat) (A D At Nx La : Nat → Nat) : List Nat :=
  if 0 ≤ si ∧ si < 4 ∧ 0 < n ∧ nb = n ∧ m = (n + 1) / 2 then ckL si.toNat be ga x fi la us n m A D At Nx La else []
theorem ckA_M (si : Int) (n nb m be ga x fi la us : Nat) (A D At Nx La : Nat → Nat) (hN : n ≤ 1000 ∧ nb ≤ 1000 ∧ m ≤ 1000) : (ckA si be ga x fi la us n nb m A D At Nx La).length ≤ 2001 ∧ ∀ i, i < (ckA si be ga x fi la us n nb m A D At Nx La).length → (ckA si be ga x fi la us n nb m A D At Nx La).getD i 0 < 115792089237316195423570985008687907853269984665640564039457584007913129639936 := by
  have key : (ckA si be ga x fi la us n nb m A D At Nx La).length ≤ 2001 ∧ ∀ y, y ∈ ckA si be ga x fi la us n nb m A D At Nx La → y < 115792089237316195423570985008687907853269984665640564039457584007913129639936 := by
    unfold ckA
    split
    · refine ⟨?_, fun y hy => ?_⟩
      · unfold ckL; rw [List.length_append, List.length_append, zL_len, List.length_map, List.length_range, List.length_singleton]; omega
      · unfold ckL zL at hy
        rw [List.mem_append, List.mem_append] at hy
        rcases hy with (hy | hy) | hy
        · obtain ⟨j, _, rfl⟩ := List.mem_map.1 hy
          exact jP_M _ _ _ _ _
        · rw [List.mem_singleton] at hy; rw [hy]; exact mulP_M _ _ _
        · obtain ⟨j, _, rfl⟩ := List.mem_map.1 hy
          exact mulP_M _ _ _
    · exact ⟨by simp, fun y hy => by simp at hy⟩
  refine ⟨key.1, fun i hi => key.2 _ ?_⟩
  rw [List.getD_eq_getElem?_getD, List.getElem?_eq_getElem hi, Option.getD_some]
  exact List.getElem_mem hi
set_option maxHeartbeats 1000000 in
theorem pchks_any (si : Int) (n nb m be ga x fi la us : Nat) (sp : Array Value) (A D At Nx La : Nat → Nat) (hN : n ≤ 1000 ∧ nb ≤ 1000 ∧ m ≤ 1000) (hS : SpV sp x fi la us) (hx : x < 115792089237316195423570985008687907853269984665640564039457584007913129639936) (hfi : fi < 115792089237316195423570985008687907853269984665640564039457584007913129639936) (hla : la < 115792089237316195423570985008687907853269984665640564039457584007913129639936) (hus : us < 115792089237316195423570985008687907853269984665640564039457584007913129639936) (hbe : be < 115792089237316195423570985008687907853269984665640564039457584007913129639936) (hga : ga < 115792089237316195423570985008687907853269984665640564039457584007913129639936) (hAM : ∀ i, i < n → A i < 115792089237316195423570985008687907853269984665640564039457584007913129639936) (hDM : ∀ i, i < nb → D i < 115792089237316195423570985008687907853269984665640564039457584007913129639936) (hTM : ∀ i, i < m → At i < 115792089237316195423570985008687907853269984665640564039457584007913129639936 ∧ Nx i < 115792089237316195423570985008687907853269984665640564039457584007913129639936 ∧ La i < 115792089237316195423570985008687907853269984665640564039457584007913129639936) (v1 v2 v3 : Value) (w : World) (hg : Glob w) (h1 : Es w v1 n A) (h2 : Es w v2 nb D) (h3 : Zs w v3 m At Nx La) :
    Calls Tryd.prog 10 #[.int .i64 si, .agg sp, v1, v2, v3, .agg #[.int .u64 ((limb 0 (be) : Nat) : Int), .int .u64 ((limb 1 (be) : Nat) : Int), .int .u64 ((limb 2 (be) : Nat) : Int), .int .u64 ((limb 3 (be) : Nat) : Int)], .agg #[.int .u64 ((limb 0 (ga) : Nat) : Int), .int .u64 ((limb 1 (ga) : Nat) : Int), .int .u64 ((limb 2 (ga) : Nat) : Int), .int .u64 ((limb 3 (ga) : Nat) : Int)]] w fun e w' => (∃ v, e = .returned v ∧ Es w' v (ckA si be ga x fi la us n nb m A D At Nx La).length (fun i => (ckA si be ga x fi la us n nb m A D At Nx La).getD i 0)) ∧ Below w.heap.size w w' := by
  obtain ⟨oa, ca, rfl⟩ := h1.shape
  obtain ⟨ob, cb, rfl⟩ := h2.shape
  obtain ⟨oz, cz, rfl⟩ : ∃ o c, v3 = .slice o m c := by
    rcases h3 with ⟨rfl, o, c, rfl⟩ | ⟨b, o, c, rfl, _⟩
    · exact ⟨_, _, rfl⟩
    · exact ⟨_, _, rfl⟩
  by_cases h0 : n = 0
  · rw [show ckA si be ga x fi la us n nb m A D At Nx La = [] from if_neg (by omega)]
    exact (chks_n0 si sp oa ob oz n nb m ca cb cz be ga h0 w).mono (by rintro e w' ⟨rfl, hb⟩; exact ⟨⟨_, rfl, Or.inl ⟨rfl, rfl⟩⟩, hb⟩)
  by_cases hb : nb ≠ n
  · rw [show ckA si be ga x fi la us n nb m A D At Nx La = [] from if_neg (by omega)]
    exact (chks_nb si sp oa ob oz n nb m ca cb cz be ga h0 hb w).mono (by rintro e w' ⟨rfl, hb⟩; exact ⟨⟨_, rfl, Or.inl ⟨rfl, rfl⟩⟩, hb⟩)
  have hb' : nb = n := by omega
  by_cases hm : m ≠ (n + 1) / 2
  · rw [show ckA si be ga x fi la us n nb m A D At Nx La = [] from if_neg (by omega)]
    exact (chks_m si sp oa ob oz n nb m ca cb cz be ga h0 hN.1 hb' hm w).mono (by rintro e w' ⟨rfl, hb⟩; exact ⟨⟨_, rfl, Or.inl ⟨rfl, rfl⟩⟩, hb⟩)
  have hm' : m = (n + 1) / 2 := by omega
  subst hb'
  by_cases hs : si < 0 ∨ 4 ≤ si
  · rw [show ckA si be ga x fi la us nb nb m A D At Nx La = [] from if_neg (by omega)]
    exact (chks_sort si sp oa ob oz nb m ca cb cz be ga hs (by omega) hm' w).mono (by rintro e w' ⟨rfl, hb⟩; exact ⟨⟨_, rfl, Or.inl ⟨rfl, rfl⟩⟩, hb⟩)
  obtain ⟨s, rfl⟩ := Int.eq_ofNat_of_zero_le (show 0 ≤ si by omega)
  rw [show ckA (s : Int) be ga x fi la us nb nb m A D At Nx La = ckL s be ga x fi la us nb m A D At Nx La from if_pos (by omega)]
  rcases h1.open with ⟨_, hz, _⟩ | ⟨ab, ao, rfl, _, _, lA, hA⟩
  · omega
  rcases h2.open with ⟨_, hz, _⟩ | ⟨bb, bo, rfl, _, _, lB, hB⟩
  · omega
  rcases h3 with ⟨hz, _⟩ | ⟨zb, zo, c, hz, hmc, hcs⟩
  · omega
  cases hz
  exact (pchks_in s nb m ca ab ao cb bb bo cz zb zo x fi la us be ga sp A D At Nx La (by omega) (by omega) hm' hmc hS hx hfi hla hus hbe hga hAM hDM (fun i hi => (hTM i hi).1) (fun i hi => (hTM i hi).2.1) (fun i hi => (hTM i hi).2.2) w hg hcs lA hA lB hB).mono (by rintro e w' ⟨⟨v, rfl, ho⟩, hb⟩; exact ⟨⟨_, rfl, ho.es⟩, hb⟩)
set_option maxHeartbeats 1000000 in
theorem rchks_any (si : Int) (n nb m be ga x fi la us : Nat) (sp : Array Value) (A D At Nx La : Nat → Nat) (hN : n ≤ 1000 ∧ nb ≤ 1000 ∧ m ≤ 1000) (hS : SpV sp x fi la us) (hx : x < 115792089237316195423570985008687907853269984665640564039457584007913129639936) (hfi : fi < 115792089237316195423570985008687907853269984665640564039457584007913129639936) (hla : la < 115792089237316195423570985008687907853269984665640564039457584007913129639936) (hus : us < 115792089237316195423570985008687907853269984665640564039457584007913129639936) (hbe : be < 115792089237316195423570985008687907853269984665640564039457584007913129639936) (hga : ga < 115792089237316195423570985008687907853269984665640564039457584007913129639936) (hAM : ∀ i, i < n → A i < 115792089237316195423570985008687907853269984665640564039457584007913129639936) (hDM : ∀ i, i < nb → D i < 115792089237316195423570985008687907853269984665640564039457584007913129639936) (hTM : ∀ i, i < m → At i < 115792089237316195423570985008687907853269984665640564039457584007913129639936 ∧ Nx i < 115792089237316195423570985008687907853269984665640564039457584007913129639936 ∧ La i < 115792089237316195423570985008687907853269984665640564039457584007913129639936) (v1 v2 v3 : Value) (w : World) (h1 : Es w v1 n A) (h2 : Es w v2 nb D) (h3 : Zs w v3 m At Nx La) :
    Calls Tryd.prog 12 #[.int .i64 si, .agg sp, v1, v2, v3, .agg #[.int .u64 ((limb 0 (be) : Nat) : Int), .int .u64 ((limb 1 (be) : Nat) : Int), .int .u64 ((limb 2 (be) : Nat) : Int), .int .u64 ((limb 3 (be) : Nat) : Int)], .agg #[.int .u64 ((limb 0 (ga) : Nat) : Int), .int .u64 ((limb 1 (ga) : Nat) : Int), .int .u64 ((limb 2 (ga) : Nat) : Int), .int .u64 ((limb 3 (ga) : Nat) : Int)]] w fun e w' => (∃ v, e = .returned v ∧ Es w' v (ckA si be ga x fi la us n nb m A D At Nx La).length (fun i => (ckA si be ga x fi la us n nb m A D At Nx La).getD i 0)) ∧ Below w.heap.size w w' := by
  obtain ⟨oa, ca, rfl⟩ := h1.shape
  obtain ⟨ob, cb, rfl⟩ := h2.shape
  obtain ⟨oz, cz, rfl⟩ : ∃ o c, v3 = .slice o m c := by
    rcases h3 with ⟨rfl, o, c, rfl⟩ | ⟨b, o, c, rfl, _⟩
    · exact ⟨_, _, rfl⟩
    · exact ⟨_, _, rfl⟩
  by_cases hs1 : si < 0
  · rw [show ckA si be ga x fi la us n nb m A D At Nx La = [] from if_neg (by omega)]
    exact rchks_s1 si sp oa ob oz n nb m ca cb cz be ga hs1 w
  by_cases hs2 : 3 < si
  · rw [show ckA si be ga x fi la us n nb m A D At Nx La = [] from if_neg (by omega)]
    exact rchks_s2 si sp oa ob oz n nb m ca cb cz be ga hs1 hs2 w
  by_cases hb : nb ≠ n
  · rw [show ckA si be ga x fi la us n nb m A D At Nx La = [] from if_neg (by omega)]
    exact rchks_nb si sp oa ob oz n nb m ca cb cz be ga hs1 hs2 hb w
  have hb' : nb = n := by omega
  by_cases hm : m ≠ (n + 1) / 2
  · rw [show ckA si be ga x fi la us n nb m A D At Nx La = [] from if_neg (by omega)]
    exact rchks_m si sp oa ob oz n nb m ca cb cz be ga hs1 hs2 hN.1 hb' hm w
  have hm' : m = (n + 1) / 2 := by omega
  subst hb'
  by_cases h0 : nb = 0
  · rw [show ckA si be ga x fi la us nb nb m A D At Nx La = [] from if_neg (by omega)]
    subst h0
    have hm0 : m = 0 := by omega
    subst hm0
    exact rchks_n0 si sp oa ob oz ca cb cz be ga hs1 hs2 w
  obtain ⟨s, rfl⟩ := Int.eq_ofNat_of_zero_le (show 0 ≤ si by omega)
  rw [show ckA (s : Int) be ga x fi la us nb nb m A D At Nx La = ckL s be ga x fi la us nb m A D At Nx La from if_pos (by omega)]
  rcases h1.open with ⟨_, hz, _⟩ | ⟨ab, ao, rfl, _, _, lA, hA⟩
  · omega
  rcases h2.open with ⟨_, hz, _⟩ | ⟨bb, bo, rfl, _, _, lB, hB⟩
  · omega
  rcases h3 with ⟨hz, _⟩ | ⟨zb, zo, c, hz, hmc, hcs⟩
  · omega
  cases hz
  exact (rchks_in s nb m ca ab ao cb bb bo cz zb zo x fi la us be ga sp A D At Nx La (by omega) (by omega) hm' hS hx hfi hla hus hbe hga hAM hDM (fun i hi => (hTM i hi).1) (fun i hi => (hTM i hi).2.1) (fun i hi => (hTM i hi).2.2) w hcs lA hA lB hB).mono (by rintro e w' ⟨⟨v, rfl, ho⟩, hb⟩; exact ⟨⟨_, rfl, ho.es⟩, hb⟩)
end Go.Proofs.YtmbfkflgpdkphaaDoor
