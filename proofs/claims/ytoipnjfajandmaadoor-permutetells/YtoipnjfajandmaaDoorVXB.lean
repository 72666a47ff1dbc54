/- Both Checks (permute) where all fits, with one list. -/
import Derived.Test.YtoipnjfajandmaaDoorVPC3
import Derived.Test.YtoipnjfajandmaaDoorVPC4
import Derived.Test.YtoipnjfajandmaaDoorVXA
import Derived.Laws.AppendOwnNone
import Derived.Test.YtoipnjfajandmaaDoorVX9
namespace Go.Proofs.YtoipnjfajandmaaDoor
open Go.RowKit
/-- A chunk's length. -/
def kL (n j : Nat) : Nat := min (2 * j + 2) n - 2 * j
/-- A step's number. -/
def stK (s be ga x us n : Nat) (A D At Nx : Nat → Nat) (j : Nat) : Nat :=
  mulP s us (subP s (mulP s (Nx j) (pW s (fun i => lbP s be ga (A (2 * j + i)) (D (2 * j + i))) (kL n j))) (mulP s (At j) (pW s (fun i => lbP s be ga (A (2 * j + i)) (mulP s (stP s (dP s) (2 * j + i)) x)) (kL n j))))
/-- What Checks answers. -/
def ckL (s be ga x fi la us n m : Nat) (A D At Nx La : Nat → Nat) : List Nat :=
  zL (jP s fi At La) (m - 1) ++ [jE s la (At (m - 1))] ++ (List.range m).map (stK s be ga x us n A D At Nx)
theorem jP_M (s fi : Nat) (At La : Nat → Nat) (j : Nat) : jP s fi At La j < 115792089237316195423570985008687907853269984665640564039457584007913129639936 := by
  cases j with
  | zero => exact mulP_M _ _ _
  | succ j => exact mulP_M _ _ _
theorem CelK.sub {w : World} {b n f k : Nat} {A B D : Nat → Nat} (h : CelK w b n A B D) (hk : f + k ≤ n) : CelS w b (f * 12) k (fun i => A (f + i)) (fun i => B (f + i)) (fun i => D (f + i)) := by
  have hs := h.celS
  refine ⟨hs.1, fun i hi => ?_⟩
  obtain ⟨h1, h2, h3⟩ := hs.2 (f + i) (by omega)
  refine ⟨fun j hj => ?_, fun j hj => ?_, fun j hj => ?_⟩
  · rw [show f * 12 + i * 12 + j = 0 + (f + i) * 12 + j by omega]; exact h1 j hj
  · rw [show f * 12 + i * 12 + 4 + j = 0 + (f + i) * 12 + 4 + j by omega]; exact h2 j hj
  · rw [show f * 12 + i * 12 + 8 + j = 0 + (f + i) * 12 + 8 + j by omega]; exact h3 j hj
set_option maxHeartbeats 1000000 in
/-- permute.Checks where all fits. -/
theorem pchks_in (s n m ca ab ao cb bb bo cz zb zo x fi la us be ga : Nat) (sp : Array Value) (A D At Nx La : Nat → Nat) (hs : s < 4) (hn : 0 < n ∧ n ≤ 1000) (hm : m = (n + 1) / 2) (hmz : m ≤ cz) (hS : SpV sp x fi la us) (hx : x < 115792089237316195423570985008687907853269984665640564039457584007913129639936) (hfi : fi < 115792089237316195423570985008687907853269984665640564039457584007913129639936) (hla : la < 115792089237316195423570985008687907853269984665640564039457584007913129639936) (hus : us < 115792089237316195423570985008687907853269984665640564039457584007913129639936) (hbe : be < 115792089237316195423570985008687907853269984665640564039457584007913129639936) (hga : ga < 115792089237316195423570985008687907853269984665640564039457584007913129639936)
    (hAM : ∀ i, i < n → A i < 115792089237316195423570985008687907853269984665640564039457584007913129639936) (hDM : ∀ i, i < n → D i < 115792089237316195423570985008687907853269984665640564039457584007913129639936) (hTM : ∀ i, i < m → At i < 115792089237316195423570985008687907853269984665640564039457584007913129639936) (hNM : ∀ i, i < m → Nx i < 115792089237316195423570985008687907853269984665640564039457584007913129639936) (hLM : ∀ i, i < m → La i < 115792089237316195423570985008687907853269984665640564039457584007913129639936) (w : World) (hg : Glob w) (hc : CelS w zb zo m At Nx La)
    (lA : ab < w.heap.size) (hA : ∀ i, i < n → ∀ j, j < 4 → w.cell? ⟨ab, ao + i * 4 + j, none⟩ = some (.int .u64 ((limb j (A i) : Nat) : Int))) (lB : bb < w.heap.size) (hB : ∀ i, i < n → ∀ j, j < 4 → w.cell? ⟨bb, bo + i * 4 + j, none⟩ = some (.int .u64 ((limb j (D i) : Nat) : Int))) :
    Calls Tryd.prog 10 #[.int .i64 (s : Int), .agg sp, .slice (some ⟨ab, ao, none⟩) n ca, .slice (some ⟨bb, bo, none⟩) n cb, .slice (some ⟨zb, zo, none⟩) m cz, .agg #[.int .u64 ((limb 0 (be) : Nat) : Int), .int .u64 ((limb 1 (be) : Nat) : Int), .int .u64 ((limb 2 (be) : Nat) : Int), .int .u64 ((limb 3 (be) : Nat) : Int)], .agg #[.int .u64 ((limb 0 (ga) : Nat) : Int), .int .u64 ((limb 1 (ga) : Nat) : Int), .int .u64 ((limb 2 (ga) : Nat) : Int), .int .u64 ((limb 3 (ga) : Nat) : Int)]] w fun e w' => (∃ v, e = .returned v ∧ OwnL w' w.heap.size v (ckL s be ga x fi la us n m A D At Nx La)) ∧ Below w.heap.size w w' := by
  have hm0 : 0 < m ∧ m ≤ 1000 := by omega
  have hkl : ∀ j, j < m → 2 * j + kL n j ≤ n ∧ kL n j ≤ 1000 ∧ 2 * j < n := fun j hj => by unfold kL; omega
  refine chks_ok (s : Int) sp _ _ _ n m ca cb cz be ga (zL (jP s fi At La) (m - 1) ++ [jE s la (At (m - 1))]) (stK s be ga x us n A D At Nx) (stP s (dP s)) hn hm (by rw [List.length_append, zL_len]; simp; omega) hS.1 w hg (fun w hg => argof_any s n be ga hs hn.2 w hg)
    (fun w' hg' hb => joints_any s m cz zb zo x fi la us sp At Nx La hs hm0 hmz hS hfi hla hTM hLM w' hg' (hc.below hb hc.1)) (fun g w' hg' hb hst => ?_)
  have hag : ∀ g, AgP #[.int .i64 (s : Int), .int .u64 ((limb 0 be : Nat) : Int), .int .u64 ((limb 1 be : Nat) : Int), .int .u64 ((limb 2 be : Nat) : Int), .int .u64 ((limb 3 be : Nat) : Int), .int .u64 ((limb 0 ga : Nat) : Int), .int .u64 ((limb 1 ga : Nat) : Int), .int .u64 ((limb 2 ga : Nat) : Int), .int .u64 ((limb 3 ga : Nat) : Int), .slice (some ⟨g, 0, none⟩) n n] (s : Int) be ga (.slice (some ⟨g, 0, none⟩) n n) := fun g => ⟨rfl, rfl, ⟨rfl, rfl, rfl, rfl⟩, ⟨rfl, rfl, rfl, rfl⟩, rfl⟩
  refine steps_walk (s : Int) n m ca ab ao cb bb bo cz zb zo x fi la us be ga _ _ sp A (fun i => mulP s (stP s (dP s) i) x) D At Nx La (fun j => mulP s (Nx j) (pW s (fun i => lbP s be ga (A (2 * j + i)) (D (2 * j + i))) (kL n j))) (fun j => mulP s (At j) (pW s (fun i => lbP s be ga (A (2 * j + i)) (mulP s (stP s (dP s) (2 * j + i)) x)) (kL n j)))
    (fun j => pW s (fun i => lbP s be ga (A (2 * j + i)) (D (2 * j + i))) (kL n j)) (fun j => pW s (fun i => lbP s be ga (A (2 * j + i)) (mulP s (stP s (dP s) (2 * j + i)) x)) (kL n j))
    (fun j => subP s (mulP s (Nx j) (pW s (fun i => lbP s be ga (A (2 * j + i)) (D (2 * j + i))) (kL n j))) (mulP s (At j) (pW s (fun i => lbP s be ga (A (2 * j + i)) (mulP s (stP s (dP s) (2 * j + i)) x)) (kL n j))))
    (stK s be ga x us n A D At Nx) (fun j => 2 * j * 12) (kL n) (fun j => n - 2 * j) hm0.2 (hag g) hS w' hg' (hc.below hb hc.1)
    (fun w2 hg2 hb2 => cells_any s n n n ca cb ab ao bb bo g x _ be ga (stP s (dP s)) A D hs (Nat.le_refl _) hn.2 (hag g) hx (stP_M s _) w2 hg2 (hst.belowAll hb2) ?_ (fun i hi j hj => ?_) ?_ (fun i hi j hj => ?_))
    (fun G j hj w => chunk_any G n j (2 * j) (min (2 * j + 2) n) hn.2 rfl (hkl j hj).2.2 rfl w)
    (fun G j hj w hg hK => byNext_any s G (2 * j * 12) (kL n j) (n - 2 * j) _ be ga _ (fun i => A (2 * j + i)) (fun i => mulP s (stP s (dP s) (2 * j + i)) x) (fun i => D (2 * j + i)) hs (hkl j hj).2.1 (hag g) hbe hga (fun i hi => hAM _ (by have := (hkl j hj).1; omega)) (fun i hi => hDM _ (by have := (hkl j hj).1; omega)) w hg (hK.sub (hkl j hj).1))
    (fun G j hj w hg hK => byOwn_any s G (2 * j * 12) (kL n j) (n - 2 * j) _ be ga _ (fun i => A (2 * j + i)) (fun i => mulP s (stP s (dP s) (2 * j + i)) x) (fun i => D (2 * j + i)) hs (hkl j hj).2.1 (hag g) hbe hga (fun i hi => hAM _ (by have := (hkl j hj).1; omega)) (fun i hi => mulP_M _ _ _) w hg (hK.sub (hkl j hj).1))
    (fun j hj w hg => fMul_any s _ _ hs (hNM j hj) (pW_M _ _ _) w hg) (fun j hj w hg => fMul_any s _ _ hs (hTM j hj) (pW_M _ _ _) w hg) (fun j hj w hg => fSub_any s _ _ hs (mulP_M _ _ _) (mulP_M _ _ _) w hg) (fun j hj w hg => fMul_any s _ _ hs hus (subP_M _ _ _) w hg)
  · exact Nat.lt_of_lt_of_le lA (Nat.le_trans hb.size hb2.size)
  · exact ((hb2.cell (p := ⟨ab, ao + i * 4 + j, none⟩) (Nat.lt_of_lt_of_le lA hb.size)).trans (hb.cell (p := ⟨ab, ao + i * 4 + j, none⟩) lA)).trans (hA i hi j hj)
  · exact Nat.lt_of_lt_of_le lB (Nat.le_trans hb.size hb2.size)
  · exact ((hb2.cell (p := ⟨bb, bo + i * 4 + j, none⟩) (Nat.lt_of_lt_of_le lB hb.size)).trans (hb.cell (p := ⟨bb, bo + i * 4 + j, none⟩) lB)).trans (hB i hi j hj)
/-- A list of chunks. -/
def Zs (w : World) (v : Value) (m : Nat) (At Nx La : Nat → Nat) : Prop :=
  (m = 0 ∧ ∃ o c, v = .slice o 0 c) ∨ ∃ b o c, v = .slice (some ⟨b, o, none⟩) m c ∧ m ≤ c ∧ CelS w b o m At Nx La
theorem Zs.below {w w' : World} {v : Value} {m : Nat} {At Nx La : Nat → Nat} (h : Zs w v m At Nx La) (hb : Below w.heap.size w w') : Zs w' v m At Nx La := by
  rcases h with h | ⟨b, o, c, h1, h2, h3⟩
  · exact Or.inl h
  · exact Or.inr ⟨b, o, c, h1, h2, h3.below hb h3.1⟩
/-- What Checks answers, whatever is handed in. -/
def ckA (si : Int) (be ga x fi la us n nb m : Nat) (A D At Nx La : Nat → Nat) : List Nat :=
  if 0 ≤ si ∧ si < 4 ∧ 0 < n ∧ nb = n ∧ m = (n + 1) / 2 then ckL si.toNat be ga x fi la us n m A D At Nx La else []
theorem ckA_M (si : Int) (n nb m be ga x fi la us : Nat) (A D At Nx La : Nat → Nat) (hN : n ≤ 1000 ∧ nb ≤ 1000 ∧ m ≤ 1000) : (ckA si be ga x fi la us n nb m A D At Nx La).length ≤ 2001 ∧ ∀ i, i < (ckA si be ga x fi la us n nb m A D At Nx La).length → (ckA si be ga x fi la us n nb m A D At Nx La).getD i 0 < 115792089237316195423570985008687907853269984665640564039457584007913129639936 := by
  have key : (ckA si be ga x fi la us n nb m A D At Nx La).length ≤ 2001 ∧ ∀ y, y ∈ ckA si be ga x fi la us n nb m A D At Nx La → y < 115792089237316195423570985008687907853269984665640564039457584007913129639936 := by
    unfold ckA
    split
    · refine ⟨?_, fun y hy => ?_⟩
      · unfold ckL; rw [List.length_append, List.length_append, zL_len, List.length_map, List.length_range, List.length_singleton]; omega
      · unfold ckL zL at hy
        rw [List.mem_append, List.mem_append] at hy
        rcases hy with (hy | hy) | hy
        · obtain ⟨j, _, rfl⟩ := List.mem_map.1 hy
          exact jP_M _ _ _ _ _
        · rw [List.mem_singleton] at hy; rw [hy]; exact mulP_M _ _ _
        · obtain ⟨j, _, rfl⟩ := List.mem_map.1 hy
          exact mulP_M _ _ _
    · exact ⟨by simp, fun y hy => by simp at hy⟩
  refine ⟨key.1, fun i hi => key.2 _ ?_⟩
  rw [List.getD_eq_getElem?_getD, List.getElem?_eq_getElem hi, Option.getD_some]
  exact List.getElem_mem hi
set_option maxHeartbeats 1000000 in
theorem pchks_any (si : Int) (n nb m be ga x fi la us : Nat) (sp : Array Value) (A D At Nx La : Nat → Nat) (hN : n ≤ 1000 ∧ nb ≤ 1000 ∧ m ≤ 1000) (hS : SpV sp x fi la us) (hx : x < 115792089237316195423570985008687907853269984665640564039457584007913129639936) (hfi : fi < 115792089237316195423570985008687907853269984665640564039457584007913129639936) (hla : la < 115792089237316195423570985008687907853269984665640564039457584007913129639936) (hus : us < 115792089237316195423570985008687907853269984665640564039457584007913129639936) (hbe : be < 115792089237316195423570985008687907853269984665640564039457584007913129639936) (hga : ga < 115792089237316195423570985008687907853269984665640564039457584007913129639936) (hAM : ∀ i, i < n → A i < 115792089237316195423570985008687907853269984665640564039457584007913129639936) (hDM : ∀ i, i < nb → D i < 115792089237316195423570985008687907853269984665640564039457584007913129639936) (hTM : ∀ i, i < m → At i < 115792089237316195423570985008687907853269984665640564039457584007913129639936 ∧ Nx i < 115792089237316195423570985008687907853269984665640564039457584007913129639936 ∧ La i < 115792089237316195423570985008687907853269984665640564039457584007913129639936) (v1 v2 v3 : Value) (w : World) (hg : Glob w) (h1 : Es w v1 n A) (h2 : Es w v2 nb D) (h3 : Zs w v3 m At Nx La) :
    Calls Tryd.prog 10 #[.int .i64 si, .agg sp, v1, v2, v3, .agg #[.int .u64 ((limb 0 (be) : Nat) : Int), .int .u64 ((limb 1 (be) : Nat) : Int), .int .u64 ((limb 2 (be) : Nat) : Int), .int .u64 ((limb 3 (be) : Nat) : Int)], .agg #[.int .u64 ((limb 0 (ga) : Nat) : Int), .int .u64 ((limb 1 (ga) : Nat) : Int), .int .u64 ((limb 2 (ga) : Nat) : Int), .int .u64 ((limb 3 (ga) : Nat) : Int)]] w fun e w' => (∃ v, e = .returned v ∧ Es w' v (ckA si be ga x fi la us n nb m A D At Nx La).length (fun i => (ckA si be ga x fi la us n nb m A D At Nx La).getD i 0)) ∧ Below w.heap.size w w' := by
  obtain ⟨oa, ca, rfl⟩ := h1.shape
  obtain ⟨ob, cb, rfl⟩ := h2.shape
  obtain ⟨oz, cz, rfl⟩ : ∃ o c, v3 = .slice o m c := by
    rcases h3 with ⟨rfl, o, c, rfl⟩ | ⟨b, o, c, rfl, _⟩
    · exact ⟨_, _, rfl⟩
    · exact ⟨_, _, rfl⟩
  by_cases h0 : n = 0
  · rw [show ckA si be ga x fi la us n nb m A D At Nx La = [] from if_neg (by omega)]
    exact (chks_n0 si sp oa ob oz n nb m ca cb cz be ga h0 w).mono (by rintro e w' ⟨rfl, hb⟩; exact ⟨⟨_, rfl, Or.inl ⟨rfl, rfl⟩⟩, hb⟩)
  by_cases hb : nb ≠ n
  · rw [show ckA si be ga x fi la us n nb m A D At Nx La = [] from if_neg (by omega)]
    exact (chks_nb si sp oa ob oz n nb m ca cb cz be ga h0 hb w).mono (by rintro e w' ⟨rfl, hb⟩; exact ⟨⟨_, rfl, Or.inl ⟨rfl, rfl⟩⟩, hb⟩)
  have hb' : nb = n := by omega
  by_cases hm : m ≠ (n + 1) / 2
  · rw [show ckA si be ga x fi la us n nb m A D At Nx La = [] from if_neg (by omega)]
    exact (chks_m si sp oa ob oz n nb m ca cb cz be ga h0 hN.1 hb' hm w).mono (by rintro e w' ⟨rfl, hb⟩; exact ⟨⟨_, rfl, Or.inl ⟨rfl, rfl⟩⟩, hb⟩)
  have hm' : m = (n + 1) / 2 := by omega
  subst hb'
  by_cases hs : si < 0 ∨ 4 ≤ si
  · rw [show ckA si be ga x fi la us nb nb m A D At Nx La = [] from if_neg (by omega)]
    exact (chks_sort si sp oa ob oz nb m ca cb cz be ga hs (by omega) hm' w).mono (by rintro e w' ⟨rfl, hb⟩; exact ⟨⟨_, rfl, Or.inl ⟨rfl, rfl⟩⟩, hb⟩)
  obtain ⟨s, rfl⟩ := Int.eq_ofNat_of_zero_le (show 0 ≤ si by omega)
  rw [show ckA (s : Int) be ga x fi la us nb nb m A D At Nx La = ckL s be ga x fi la us nb m A D At Nx La from if_pos (by omega)]
  rcases h1.open with ⟨_, hz, _⟩ | ⟨ab, ao, rfl, _, _, lA, hA⟩
  · omega
  rcases h2.open with ⟨_, hz, _⟩ | ⟨bb, bo, rfl, _, _, lB, hB⟩
  · omega
  rcases h3 with ⟨hz, _⟩ | ⟨zb, zo, c, hz, hmc, hcs⟩
  · omega
  cases hz
  exact (pchks_in s nb m ca ab ao cb bb bo cz zb zo x fi la us be ga sp A D At Nx La (by omega) (by omega) hm' hmc hS hx hfi hla hus hbe hga hAM hDM (fun i hi => (hTM i hi).1) (fun i hi => (hTM i hi).2.1) (fun i hi => (hTM i hi).2.2) w hg hcs lA hA lB hB).mono (by rintro e w' ⟨⟨v, rfl, ho⟩, hb⟩; exact ⟨⟨_, rfl, ho.es⟩, hb⟩)
end Go.Proofs.YtoipnjfajandmaaDoor

/- Lists of chunks: copied by append. -/
namespace Go.Proofs.YtoipnjfajandmaaDoor
open Go.RowKit
/-- A chunk's cells, one behind the other. -/
def chk12 (At Nx La : Nat → Nat) (n : Nat) : List Value := (List.range (n * 12)).map (fun t => Value.int .u64 ((limb (t % 4) (if t % 12 < 4 then At (t / 12) else if t % 12 < 8 then Nx (t / 12) else La (t / 12)) : Nat) : Int))
theorem chk12_get (At Nx La : Nat → Nat) (n i j : Nat) (hi : i < n) (hj : j < 12) : (chk12 At Nx La n)[i * 12 + j]? = some (.int .u64 ((limb (j % 4) (if j < 4 then At i else if j < 8 then Nx i else La i) : Nat) : Int)) := by
  unfold chk12
  rw [List.getElem?_map, List.getElem?_range (by omega), Option.map_some]
  rw [show (i * 12 + j) % 4 = j % 4 by omega, show (i * 12 + j) % 12 = j by omega, show (i * 12 + j) / 12 = i by omega]
theorem chunkInfo : ∃ i : TypeInfo, Tryd.prog.info? 62 = some i ∧ i.zero = some (.agg #[.int .u64 0, .int .u64 0, .int .u64 0, .int .u64 0, .int .u64 0, .int .u64 0, .int .u64 0, .int .u64 0, .int .u64 0, .int .u64 0, .int .u64 0, .int .u64 0]) ∧ i.size = 12 ∧ i.bytes = 96 := by
  have h : (Tryd.prog.info? 62).map (fun i => (i.zero, i.size, i.bytes)) = some (some (.agg #[.int .u64 0, .int .u64 0, .int .u64 0, .int .u64 0, .int .u64 0, .int .u64 0, .int .u64 0, .int .u64 0, .int .u64 0, .int .u64 0, .int .u64 0, .int .u64 0]), 12, 96) := by kernel_rfl
  obtain ⟨i, hi, he⟩ := Option.map_eq_some_iff.mp h
  simp only [Prod.mk.injEq] at he
  exact ⟨i, hi, he.1, he.2.1, he.2.2⟩
/-- A list of chunks that is handed in. -/
def Zn (w : World) (v : Value) (m : Nat) (At Nx La : Nat → Nat) : Prop :=
  (v = .slice none 0 0 ∧ m = 0) ∨ ∃ b o c, v = .slice (some ⟨b, o, none⟩) m c ∧ m ≤ c ∧ c ≤ maxLen ∧ CelS w b o m At Nx La
theorem Zn.below {w w' : World} {v : Value} {m : Nat} {At Nx La : Nat → Nat} (h : Zn w v m At Nx La) (hb : Below w.heap.size w w') : Zn w' v m At Nx La := by
  rcases h with h | ⟨b, o, c, h1, h2, h4, h3⟩
  · exact Or.inl h
  · exact Or.inr ⟨b, o, c, h1, h2, h4, h3.below hb h3.1⟩
theorem Zn.shape {w : World} {v : Value} {m : Nat} {At Nx La : Nat → Nat} (h : Zn w v m At Nx La) : ∃ o c, v = .slice o m c := by
  rcases h with ⟨rfl, rfl⟩ | ⟨b, o, c, rfl, _⟩
  · exact ⟨_, _, rfl⟩
  · exact ⟨_, _, rfl⟩
theorem own_zs {w : World} {base n : Nat} {v : Value} {At Nx La : Nat → Nat} (h : w.ownsRow base 62 12 v n (chk12 At Nx La n)) : Zs w v n At Nx La := by
  obtain ⟨_, h⟩ := h
  rcases h with ⟨rfl, h0⟩ | ⟨g, c, cur, rfl, hb, hg, hc, hm, hs, ht⟩
  · exact Or.inl ⟨h0, _, _, rfl⟩
  · have hl : g < w.heap.size := (Array.getElem?_eq_some_iff.1 hg).1
    have key : ∀ i, i < n → ∀ j, j < 12 → w.cell? ⟨g, i * 12 + j, none⟩ = some (.int .u64 ((limb (j % 4) (if j < 4 then At i else if j < 8 then Nx i else La i) : Nat) : Int)) := fun i hi j hj => by
      have h1 : cur[i * 12 + j]? = (chk12 At Nx La n)[i * 12 + j]? := by rw [← ht, List.getElem?_take_of_lt (by omega), Array.getElem?_toList]
      rw [chk12_get At Nx La n i j hi hj] at h1
      simp [World.cell?, hg, h1]
    refine Or.inr ⟨g, 0, c, rfl, hc, hl, fun i hi => ⟨fun j hj => ?_, fun j hj => ?_, fun j hj => ?_⟩⟩
    · have k := key i hi j (by omega)
      rw [if_pos (by omega), Nat.mod_eq_of_lt hj] at k
      rw [Nat.zero_add]; exact k
    · have k := key i hi (4 + j) (by omega)
      rw [if_neg (by omega), if_pos (by omega), show (4 + j) % 4 = j by omega, ← Nat.add_assoc] at k
      rw [Nat.zero_add]; exact k
    · have k := key i hi (8 + j) (by omega)
      rw [if_neg (by omega), if_neg (by omega), show (8 + j) % 4 = j by omega, ← Nat.add_assoc] at k
      rw [Nat.zero_add]; exact k
end Go.Proofs.YtoipnjfajandmaaDoor

/- A chunk more at a list of chunks. -/
namespace Go.Proofs.YtoipnjfajandmaaDoor
open Go.RowKit
/-- A chunk's twelve cells. -/
def chC (At Nx La : Nat → Nat) (n : Nat) : List Value := [.int .u64 ((limb 0 (At n) : Nat) : Int), .int .u64 ((limb 1 (At n) : Nat) : Int), .int .u64 ((limb 2 (At n) : Nat) : Int), .int .u64 ((limb 3 (At n) : Nat) : Int), .int .u64 ((limb 0 (Nx n) : Nat) : Int), .int .u64 ((limb 1 (Nx n) : Nat) : Int), .int .u64 ((limb 2 (Nx n) : Nat) : Int), .int .u64 ((limb 3 (Nx n) : Nat) : Int), .int .u64 ((limb 0 (La n) : Nat) : Int), .int .u64 ((limb 1 (La n) : Nat) : Int), .int .u64 ((limb 2 (La n) : Nat) : Int), .int .u64 ((limb 3 (La n) : Nat) : Int)]
theorem chk12_succ (At Nx La : Nat → Nat) (n : Nat) : chk12 At Nx La (n + 1) = chk12 At Nx La n ++ chC At Nx La n := by
  unfold chk12
  rw [show (n + 1) * 12 = n * 12 + 12 by omega, List.range_add, List.map_append]
  congr 1
  rw [List.map_map]
  unfold chC
  have d : ∀ c, c < 12 → (n * 12 + c) % 4 = c % 4 ∧ (n * 12 + c) % 12 = c ∧ (n * 12 + c) / 12 = n := fun c hc => by omega
  have e : List.range 12 = [0, 1, 2, 3, 4, 5, 6, 7, 8, 9, 10, 11] := by decide
  rw [e]
  simp only [List.map_cons, List.map_nil, Function.comp]
  rw [(d 0 (by decide)).1, (d 0 (by decide)).2.1, (d 0 (by decide)).2.2]
  rw [(d 1 (by decide)).1, (d 1 (by decide)).2.1, (d 1 (by decide)).2.2]
  rw [(d 2 (by decide)).1, (d 2 (by decide)).2.1, (d 2 (by decide)).2.2]
  rw [(d 3 (by decide)).1, (d 3 (by decide)).2.1, (d 3 (by decide)).2.2]
  rw [(d 4 (by decide)).1, (d 4 (by decide)).2.1, (d 4 (by decide)).2.2]
  rw [(d 5 (by decide)).1, (d 5 (by decide)).2.1, (d 5 (by decide)).2.2]
  rw [(d 6 (by decide)).1, (d 6 (by decide)).2.1, (d 6 (by decide)).2.2]
  rw [(d 7 (by decide)).1, (d 7 (by decide)).2.1, (d 7 (by decide)).2.2]
  rw [(d 8 (by decide)).1, (d 8 (by decide)).2.1, (d 8 (by decide)).2.2]
  rw [(d 9 (by decide)).1, (d 9 (by decide)).2.1, (d 9 (by decide)).2.2]
  rw [(d 10 (by decide)).1, (d 10 (by decide)).2.1, (d 10 (by decide)).2.2]
  rw [(d 11 (by decide)).1, (d 11 (by decide)).2.1, (d 11 (by decide)).2.2]
  rfl
end Go.Proofs.YtoipnjfajandmaaDoor

