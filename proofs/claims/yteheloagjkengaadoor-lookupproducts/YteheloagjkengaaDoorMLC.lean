/- LookupCompress: the arithmetic, the walk. -/
import Derived.Test.YteheloagjkengaaDoorMLB
namespace Go.Proofs.YteheloagjkengaaDoor
open Go.RowKit

/-- Block b holds n elements at least, the first n being f's. -/
def BlkP (w : World) (b n : Nat) (f : Nat → Nat) : Prop :=
  ∃ c : Array Value, w.heap[b]? = some (.cells c 25) ∧ n * 4 ≤ c.size ∧ ∀ i, i < n → ∀ j, j < 4 → c[i * 4 + j]? = some (.int .u64 ((limb j (f i) : Nat) : Int))
section
variable {w w' : World} {b n g : Nat} {f h : Nat → Nat}
theorem BlkP.lt (h : BlkP w b n f) : b < w.heap.size := by
  obtain ⟨c, hc, _⟩ := h
  exact (Array.getElem?_eq_some_iff.1 hc).1
theorem BlkP.cell (h : BlkP w b n f) : ∀ i, i < n → ∀ j, j < 4 → w.cell? ⟨b, i * 4 + j, none⟩ = some (.int .u64 ((limb j (f i) : Nat) : Int)) := by
  obtain ⟨c, hc, hs, hf⟩ := h
  intro i hi j hj
  simp [World.cell?, hc, hf i hi j hj]
theorem BlkP.frozen (h : BlkP w b n f) : ∀ o, w.frozen? ⟨b, o, none⟩ = false := by
  obtain ⟨c, hc, _⟩ := h
  intro o
  simp [World.frozen?, hc]
theorem BlkP.belowAll (h : BlkP w b n f) (hb : Below w.heap.size w w') : BlkP w' b n f := by
  have hl := h.lt
  obtain ⟨c, hc, hs⟩ := h
  exact ⟨c, by rw [hb.block b hl]; exact hc, hs⟩
theorem BlkP.kept (h : BlkP w b n f) (hne : b ≠ g) (hk : Kept g w w') : BlkP w' b n f := by
  have hl := h.lt
  obtain ⟨c, hc, hs⟩ := h
  exact ⟨c, by rw [hk.block b hl hne]; exact hc, hs⟩
theorem BlkP.congr {f2 : Nat → Nat} (h : BlkP w b n f) (hg : ∀ i, i < n → f2 i = f i) : BlkP w b n f2 := by
  obtain ⟨c, hc, hs, hf⟩ := h
  exact ⟨c, hc, hs, fun i hi j hj => by rw [hf i hi j hj, hg i hi]⟩
theorem BlkP.Es (h : BlkP w b n f) {cap : Nat} (hn : n ≤ cap) (hm : cap ≤ maxLen) : Go.Proofs.YteheloagjkengaaDoor.Es w (.slice (some ⟨b, 0, none⟩) n cap) n f :=
  Or.inr ⟨b, 0, cap, rfl, hn, hm, h.lt, fun i hi j hj => by rw [Nat.zero_add]; exact h.cell i hi j hj⟩
theorem BlkP.put {k : Nat} (h : BlkP w b n f) (hk : k < n) (x : Nat) : ∃ w', ((((w.setCell ⟨b, k * 4, none⟩ (.int .u64 ((limb 0 x : Nat) : Int))).setCell ⟨b, k * 4 + 1, none⟩ (.int .u64 ((limb 1 x : Nat) : Int))).setCell ⟨b, k * 4 + 2, none⟩ (.int .u64 ((limb 2 x : Nat) : Int))).setCell ⟨b, k * 4 + 3, none⟩ (.int .u64 ((limb 3 x : Nat) : Int))) = w' ∧ BlkP w' b n (fun i => if i = k then x else f i) ∧ Kept b w w' := by
  refine ⟨_, rfl, ?_, ((((Kept.refl b w).setCell _ _).setCell _ _).setCell _ _).setCell _ _⟩
  obtain ⟨c, hc, hs, hf⟩ := h
  refine ⟨(((c.setIfInBounds (k * 4) (.int .u64 ((limb 0 x : Nat) : Int))).setIfInBounds (k * 4 + 1) (.int .u64 ((limb 1 x : Nat) : Int))).setIfInBounds (k * 4 + 2) (.int .u64 ((limb 2 x : Nat) : Int))).setIfInBounds (k * 4 + 3) (.int .u64 ((limb 3 x : Nat) : Int)), ?_, by simp [hs], ?_⟩
  · simp [World.setCell, Array.getElem?_modify, hc]
  · intro i hi j hj
    have hlt : i * 4 + j < c.size := by omega
    dsimp only
    by_cases e : i = k
    · subst e
      rw [if_pos rfl]
      have hj4 : j = 0 ∨ j = 1 ∨ j = 2 ∨ j = 3 := by omega
      rcases hj4 with rfl | rfl | rfl | rfl
      all_goals simp [Array.getElem?_setIfInBounds]
      all_goals omega
    · rw [if_neg e, ← hf i hi j hj]
      rw [Array.getElem?_setIfInBounds_ne (by omega), Array.getElem?_setIfInBounds_ne (by omega), Array.getElem?_setIfInBounds_ne (by omega), Array.getElem?_setIfInBounds_ne (by omega)]
end
theorem four_ofP {w : World} {b n i y : Nat} {f : Nat → Nat} (h : BlkP w b n f) (hi : i < n) (e : f i = y) : w.cell? ⟨b, i * 4, none⟩ = some (.int .u64 ((limb 0 y : Nat) : Int)) ∧ w.cell? ⟨b, i * 4 + 1, none⟩ = some (.int .u64 ((limb 1 y : Nat) : Int)) ∧ w.cell? ⟨b, i * 4 + 2, none⟩ = some (.int .u64 ((limb 2 y : Nat) : Int)) ∧ w.cell? ⟨b, i * 4 + 3, none⟩ = some (.int .u64 ((limb 3 y : Nat) : Int)) := by
  have q := h.cell i hi
  have q0 := q 0 (by decide); have q1 := q 1 (by decide); have q2 := q 2 (by decide); have q3 := q 3 (by decide)
  rw [e] at q0 q1 q2 q3
  rw [Nat.add_zero] at q0
  exact ⟨q0, q1, q2, q3⟩
theorem own_P {w : World} {base n : Nat} {v : Value} {f : Nat → Nat} (h : w.ownsRow base 25 4 v n (els f n)) (h0 : 0 < n) : ∃ g c, v = .slice (some ⟨g, 0, none⟩) n c ∧ n ≤ c ∧ c ≤ maxLen ∧ base ≤ g ∧ BlkP w g n f := by
  obtain ⟨_, h⟩ := h
  rcases h with ⟨rfl, h1⟩ | ⟨g, c, cur, rfl, hb, hg, hc, hm, hs, ht⟩
  · omega
  · refine ⟨g, c, rfl, hc, hm, hb, cur, hg, by omega, fun i hi j hj => ?_⟩
    have h1 : cur[i * 4 + j]? = (els f n)[i * 4 + j]? := by rw [← ht, List.getElem?_take_of_lt (by omega), Array.getElem?_toList]
    rw [els_get f n i j hi hj] at h1
    exact h1

theorem mul_eq_mod {m a b t : Nat} (hp : IsPrime m) (ha : a < m) (hb : b < m) : a * t % m = b * t % m ↔ a = b ∨ t % m = 0 := by
  constructor
  · intro h
    have key : ∀ a b : Nat, a < m → b < m → a ≤ b → a * t % m = b * t % m → a = b ∨ t % m = 0 := by
      intro a b _ hb hab h
      have h1 : (b * t - a * t) % m = 0 := Nat.sub_mod_eq_zero_of_mod_eq h.symm
      rw [← Nat.sub_mul] at h1
      rcases hp.dvd_mul (Nat.dvd_of_mod_eq_zero h1) with h2 | h2
      · have h3 := Nat.mod_eq_zero_of_dvd h2
        rw [Nat.mod_eq_of_lt (by omega)] at h3
        exact Or.inl (by omega)
      · exact Or.inr (Nat.mod_eq_zero_of_dvd h2)
    rcases Nat.le_total a b with h1 | h1
    · exact key a b ha hb h1 h
    · rcases key b a hb ha h1 h.symm with h2 | h2
      · exact Or.inl h2.symm
      · exact Or.inr h2
  · rintro (rfl | h)
    · rfl
    · rw [Nat.mul_mod, h, Nat.mul_mod b, h, Nat.mul_zero, Nat.mul_zero]
theorem add_eq_mod {m a b : Nat} (x : Nat) (ha : a < m) (hb : b < m) : (a + x) % m = (b + x) % m ↔ a = b := by
  constructor
  · intro h
    have key : ∀ a b : Nat, b < m → a ≤ b → (a + x) % m = (b + x) % m → a = b := by
      intro a b hb hab h
      have h1 : (b + x - (a + x)) % m = 0 := Nat.sub_mod_eq_zero_of_mod_eq h.symm
      rw [show b + x - (a + x) = b - a by omega, Nat.mod_eq_of_lt (by omega)] at h1
      omega
    rcases Nat.le_total a b with h1 | h1
    · exact key a b hb h1 h
    · exact (key b a ha h1 h.symm).symm
  · rintro rfl; rfl
theorem add_eq_mod2 {m a u v : Nat} (hm : 0 < m) : (a + u) % m = (a + v) % m ↔ u % m = v % m := by
  rw [Nat.add_comm a u, Nat.add_comm a v, ← Nat.mod_add_mod u m a, ← Nat.mod_add_mod v m a]
  exact add_eq_mod a (Nat.mod_lt _ hm) (Nat.mod_lt _ hm)
def cP (s th : Nat) (f : Nat → Nat) : Nat → Nat := cps (addP s) (mulP s) th f
theorem cP_low (s th a : Nat) (f g : Nat → Nat) (hg : ∀ i, i ≠ a → g i = f i) : ∀ k, k ≤ a → cP s th f k = cP s th g k
  | 0, _ => rfl
  | k + 1, h => by
    show addP s (mulP s (cP s th f k) th) (f k) = addP s (mulP s (cP s th g k) th) (g k)
    rw [cP_low s th a f g hg k (by omega), hg k (by omega)]
theorem cP_lt (s th : Nat) (f : Nat → Nat) : ∀ k, cP s th f (k + 1) < modN s := fun _ => addP_lt _ _ _
theorem cP_high (s th a : Nat) (f g : Nat → Nat) (hs : s < 4) (hg : ∀ i, i ≠ a → g i = f i) : ∀ d, cP s th f (a + 1 + d) = cP s th g (a + 1 + d) ↔ (f a % modN s = g a % modN s ∨ 0 < d ∧ th % modN s = 0)
  | 0 => by
    show addP s (mulP s (cP s th f a) th) (f a) = addP s (mulP s (cP s th g a) th) (g a) ↔ _
    rw [cP_low s th a f g hg a (Nat.le_refl _)]
    unfold addP
    rw [add_eq_mod2 (modN_pos s)]
    simp
  | d + 1 => by
    have ih := cP_high s th a f g hs hg d
    have hf : cP s th f (a + 1 + d) < modN s := by rw [show a + 1 + d = a + d + 1 by omega]; exact cP_lt _ _ _ _
    have hgl : cP s th g (a + 1 + d) < modN s := by rw [show a + 1 + d = a + d + 1 by omega]; exact cP_lt _ _ _ _
    show addP s (mulP s (cP s th f (a + 1 + d)) th) (f (a + 1 + d)) = addP s (mulP s (cP s th g (a + 1 + d)) th) (g (a + 1 + d)) ↔ _
    rw [hg _ (by omega)]
    unfold addP
    rw [add_eq_mod _ (mulP_lt _ _ _) (mulP_lt _ _ _)]
    unfold mulP
    rw [mul_eq_mod (modN_prime s) hf hgl, ih]
    constructor
    · rintro ((h | h) | h)
      · exact Or.inl h
      · exact Or.inr ⟨by omega, h.2⟩
      · exact Or.inr ⟨by omega, h⟩
    · rintro (h | h)
      · exact Or.inl (Or.inl h)
      · exact Or.inr h.2
theorem subP_zero (s a b : Nat) : subP s a b = 0 ↔ a % modN s = b % modN s := by
  have hm := modN_pos s
  have hb := Nat.mod_lt b hm
  unfold subP
  constructor
  · intro h
    have h2 : (a + (modN s - b % modN s)) % modN s = (b % modN s + (modN s - b % modN s)) % modN s := by
      rw [h, show b % modN s + (modN s - b % modN s) = modN s by omega, Nat.mod_self]
    rw [← Nat.mod_add_mod] at h2
    exact (add_eq_mod _ (Nat.mod_lt a hm) hb).1 h2
  · intro h
    rw [← Nat.mod_add_mod, h, show b % modN s + (modN s - b % modN s) = modN s by omega, Nat.mod_self]
/-- What LookupCompress says, as arithmetic. -/
theorem comp_says (s n a th v : Nat) (f : Nat → Nat) (hs : s < 4) (ha : a < n) : (decide (cP s th f n = cP s th (fun i => if i = a then v else f i) n) == (decide (subP s v (f a) = 0) || (decide (a < n - 1) && decide (addP s th 0 = 0)))) = true := by
  have h := cP_high s th a f (fun i => if i = a then v else f i) hs (fun i hi => if_neg hi) (n - 1 - a)
  rw [show a + 1 + (n - 1 - a) = n by omega, if_pos rfl] at h
  rw [beq_iff_eq, Bool.eq_iff_iff]
  simp only [decide_eq_true_eq, Bool.or_eq_true, Bool.and_eq_true]
  rw [h, subP_zero]
  unfold addP
  rw [Nat.add_zero]
  constructor
  · rintro (h | h)
    · exact Or.inl h.symm
    · exact Or.inr ⟨by omega, h.2⟩
  · rintro (h | h)
    · exact Or.inl h.symm
    · exact Or.inr ⟨by omega, h.2⟩
end Go.Proofs.YteheloagjkengaaDoor

/- LookupCompress' walk. -/
namespace Go.Proofs.YteheloagjkengaaDoor
open Go.RowKit

def Kp (W w' : World) : Prop := Below W.heap.size W w'
theorem eqlIn (X Y : Nat) (hX : X < 115792089237316195423570985008687907853269984665640564039457584007913129639936) (hY : Y < 115792089237316195423570985008687907853269984665640564039457584007913129639936) (w : World) : (Op.equalIn 10000 25 (.agg #[.int .u64 ((limb 0 (X) : Nat) : Int), .int .u64 ((limb 1 (X) : Nat) : Int), .int .u64 ((limb 2 (X) : Nat) : Int), .int .u64 ((limb 3 (X) : Nat) : Int)]) (.agg #[.int .u64 ((limb 0 (Y) : Nat) : Int), .int .u64 ((limb 1 (Y) : Nat) : Int), .int .u64 ((limb 2 (Y) : Nat) : Int), .int .u64 ((limb 3 (Y) : Nat) : Int)])).run Tryd.prog w = .ok (decide (X = Y)) w := by rw [eq4_in, eq4N X Y hX hY]
theorem eqlIn0 (X : Nat) (hX : X < 115792089237316195423570985008687907853269984665640564039457584007913129639936) (w : World) : (Op.equalIn 10000 25 (.agg #[.int .u64 ((limb 0 (X) : Nat) : Int), .int .u64 ((limb 1 (X) : Nat) : Int), .int .u64 ((limb 2 (X) : Nat) : Int), .int .u64 ((limb 3 (X) : Nat) : Int)]) (.agg #[.int .u64 0, .int .u64 0, .int .u64 0, .int .u64 0])).run Tryd.prog w = .ok (decide (X = 0)) w := by
  have h := eqlIn X 0 hX M_pos w
  rwa [zE] at h

end Go.Proofs.YteheloagjkengaaDoor

/- LookupOrders: the arithmetic of the orders; count. -/
namespace Go.Proofs.YteheloagjkengaaDoor
open Go.RowKit

/-- The first ones of their values among the first places. -/
def fsl (a : List Nat) : Nat → List Nat
  | 0 => []
  | j + 1 => fsl a j ++ (if isF a j = true then [a.getD j 0] else [])
theorem fsl_first {a : List Nat} {j : Nat} (h : isF a j = true) : fsl a (j + 1) = fsl a j ++ [a.getD j 0] := by
  show fsl a j ++ (if isF a j = true then _ else _) = _
  rw [if_pos h]
theorem fsl_other {a : List Nat} {j : Nat} (h : isF a j = false) : fsl a (j + 1) = fsl a j := by
  show fsl a j ++ (if isF a j = true then _ else _) = _
  rw [if_neg (by rw [h]; decide), List.append_nil]
theorem fsl_mem {a : List Nat} {v : Nat} : ∀ j, v ∈ fsl a j → ∃ k, k < j ∧ a.getD k 0 = v
  | 0, h => by cases h
  | j + 1, h => by
    cases hf : isF a j
    · rw [fsl_other hf] at h
      obtain ⟨k, hk, e⟩ := fsl_mem j h
      exact ⟨k, by omega, e⟩
    · rw [fsl_first hf] at h
      rcases List.mem_append.1 h with h | h
      · obtain ⟨k, hk, e⟩ := fsl_mem j h
        exact ⟨k, by omega, e⟩
      · exact ⟨j, by omega, (List.mem_singleton.1 h).symm⟩
theorem wo_perm {a t : List Nat} : ∀ (j : Nat) {l : List Nat}, wo a t j = some l → t.Perm (fsl a j ++ l)
  | 0, l, h => by cases h; exact List.Perm.refl _
  | j + 1, l, h => by
    obtain ⟨m, hm, h1⟩ := Option.bind_eq_some_iff.1 h
    have ih := wo_perm j hm
    cases hf : isF a j
    · rw [if_neg (by rw [hf]; decide)] at h1
      cases h1
      rw [fsl_other hf]; exact ih
    · rw [if_pos hf] at h1
      by_cases hi : a.getD j 0 ∈ m
      · rw [if_pos hi] at h1
        cases h1
        rw [fsl_first hf, List.append_assoc]
        exact ih.trans ((List.perm_cons_erase hi).append_left _)
      · rw [if_neg hi] at h1; cases h1
theorem mt_perm (a t : List Nat) : ∀ j, nf a j ≤ t.length → (fl j (mtF a t)).Perm (fsl a j ++ t.take (nf a j))
  | 0, _ => by show (fl 0 _).Perm ([] ++ t.take 0); rw [List.take_zero]; exact List.Perm.refl _
  | j + 1, h => by
    have hm := nf_mono a j (j + 1) (by omega)
    have ih := mt_perm a t j (by omega)
    rw [fl_succ]
    cases hf : isF a j
    · rw [fsl_other hf, nf_other hf, mtF_other hf]
      rw [nf_other hf] at h
      have e : t.take (nf a j + 1) = t.take (nf a j) ++ [t.getD (nf a j) 0] := by
        rw [List.take_add_one, List.getD_eq_getElem?_getD, List.getElem?_eq_getElem (by omega)]
        rfl
      rw [e, ← List.append_assoc]
      exact ih.append_right _
    · rw [fsl_first hf, nf_first hf, mtF_first hf]
      refine (ih.append_right _).trans ?_
      rw [List.append_assoc, List.append_assoc]
      exact (List.perm_append_comm).append_left _
/-- Matched are the tables. -/
theorem mt_all {a t0 t : List Nat} (hl : a.length = t0.length) (h : wo a t0 a.length = some t) : (fl a.length (mtF a t)).Perm t0 := by
  have h1 := wo_len _ h
  have h2 : t.length = nf a a.length := by omega
  have h3 := mt_perm a t a.length (by omega)
  rw [← h2, List.take_length] at h3
  exact h3.trans (wo_perm _ h).symm
/-- Each sorted one is the matched one beside it, or the sorted one ahead. -/
theorem mt_beside {a t : List Nat} {i : Nat} (h : mtF a t i ≠ a.getD i 0) : i ≠ 0 ∧ a.getD i 0 = a.getD (i - 1) 0 := by
  cases hf : isF a i
  · unfold isF at hf
    simp only [Bool.or_eq_false_iff, Bool.not_eq_eq_eq_not, Bool.not_false, decide_eq_false_iff_not, decide_eq_true_eq] at hf
    exact hf
  · exact absurd (mtF_first hf) h
/-- What can't be taken away isn't there. -/
theorem wo_miss {a t : List Nat} (ha : Asc a) : ∀ n, n ≤ a.length → wo a t n = none → ∃ i, i < n ∧ ¬ a.getD i 0 ∈ t
  | 0, _, h => by cases h
  | n + 1, hn, h => by
    cases hw : wo a t n with
    | none =>
      obtain ⟨i, hi, e⟩ := wo_miss ha n (by omega) hw
      exact ⟨i, by omega, e⟩
    | some l =>
      cases hf : isF a n
      · rw [wo_next_skip hw hf] at h; cases h
      · by_cases hm : a.getD n 0 ∈ l
        · rw [wo_next_in hw hf hm] at h; cases h
        · refine ⟨n, by omega, fun ht => ?_⟩
          rcases List.mem_append.1 ((wo_perm n hw).mem_iff.1 ht) with h1 | h1
          · obtain ⟨k, hk, e⟩ := fsl_mem n h1
            have hn0 : n ≠ 0 := by omega
            unfold isF at hf
            rw [decide_eq_false hn0, Bool.false_or, Bool.not_eq_eq_eq_not, Bool.not_true, decide_eq_false_iff_not] at hf
            have l1 := asc_at ha (show k ≤ n - 1 by omega) (by omega)
            have l2 := asc_at ha (show n - 1 ≤ n by omega) (by omega)
            omega
          · exact hm h1

/-- How often an element is among the first ones. -/
def cnt (s : Nat) (f : Nat → Nat) (v : Nat) : Nat → Nat
  | 0 => 0
  | k + 1 => cnt s f v k + (if decide (subP s (f k) v = 0) = true then 1 else 0)
theorem cnt_le (s : Nat) (f : Nat → Nat) (v : Nat) : ∀ k, cnt s f v k ≤ k
  | 0 => Nat.le_refl _
  | k + 1 => by have := cnt_le s f v k; unfold cnt; split <;> omega
theorem cnt_list (s : Nat) (f : Nat → Nat) (v : Nat) : ∀ k, cnt s f v k = (fl k fun i => addP s (f i) 0).count (v % modN s)
  | 0 => rfl
  | k + 1 => by
    rw [fl_succ, List.count_append, List.count_singleton, ← cnt_list s f v k]
    show cnt s f v k + _ = _
    congr 1
    by_cases h : f k % modN s = v % modN s
    · rw [if_pos (by simpa using (subP_zero s (f k) v).2 h), if_pos (by simp [addP, h])]
    · rw [if_neg (by simpa using fun e => h ((subP_zero s (f k) v).1 e)), if_neg (by simpa [addP] using h)]
theorem cnt_perm {s n v : Nat} {f g : Nat → Nat} (h : (fl n fun i => addP s (f i) 0).Perm (fl n fun i => addP s (g i) 0)) : cnt s f v n = cnt s g v n := by
  rw [cnt_list, cnt_list, h.count_eq]
end Go.Proofs.YteheloagjkengaaDoor

/- LookupOrders' walk. -/
namespace Go.Proofs.YteheloagjkengaaDoor
open Go.RowKit

end Go.Proofs.YteheloagjkengaaDoor

/- LookupOrders of anything. -/
namespace Go.Proofs.YteheloagjkengaaDoor
open Go.RowKit

theorem rsg_lt {s n : Nat} {f : Nat → Nat} : ∀ v, v ∈ (rsg (fl n fun i => addP s (f i) 0)) → v < modN s := fun v hv => by
  obtain ⟨i, _, e⟩ := fl_mem.1 ((rsg_perm _).mem_iff.1 hv)
  rw [← e]; exact addP_lt _ _ _
theorem addP_id {s x : Nat} (h : x < modN s) : addP s x 0 = x := by unfold addP; rw [Nat.add_zero, Nat.mod_eq_of_lt h]
theorem cnt_in (s n v : Nat) (f : Nat → Nat) : cnt s f v n = cnt s (fun i => (rsg (fl n fun i => addP s (f i) 0)).getD i 0) v n := by
  refine cnt_perm ?_
  have hl : (rsg (fl n fun i => addP s (f i) 0)).length = n := by rw [rsg_len, fl_len]
  have e : fl n (fun i => addP s ((rsg (fl n fun i => addP s (f i) 0)).getD i 0) 0) = (rsg (fl n fun i => addP s (f i) 0)) := by
    rw [fl_congr (g := fun i => (rsg (fl n fun i => addP s (f i) 0)).getD i 0) (fun i hi => addP_id (rsg_lt _ (getD_mem (by rw [hl]; exact hi))))]
    exact fl_rsg n _
  rw [e]
  exact (rsg_perm _).symm
theorem mt_lt {a t0 t : List Nat} {M : Nat} (hl : a.length = t0.length) (h : wo a t0 a.length = some t) (ha : ∀ v, v ∈ a → v < M) (ht : ∀ v, v ∈ t0 → v < M) : ∀ i, i < a.length → mtF a t i < M := by
  intro i hi
  cases hf : isF a i
  · rw [mtF_other hf]
    have h1 := wo_len _ h
    have h2 := nf_mono a (i + 1) a.length (by omega)
    rw [nf_other hf] at h2
    exact ht _ (wo_mem _ h _ (getD_mem (by omega)))
  · rw [mtF_first hf]
    exact ha _ (getD_mem hi)
end Go.Proofs.YteheloagjkengaaDoor

