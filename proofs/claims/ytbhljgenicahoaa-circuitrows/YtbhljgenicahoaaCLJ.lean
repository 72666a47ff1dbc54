/- A circuit with less in it: what is right stays so, and its degree and its queries are no more. No walk. -/
import Derived.Test.YtbhljgenicahoaaCQ4
import Derived.Test.YtbhljgenicahoaaCLG
namespace Go.Proofs.Ytbhljgenicahoaa
open Go.RowKit

theorem evB_mk {n : Nat} {p : Nat → Bool} (h : ∀ i, i < n → p i = true) : evB n p = true := decide_eq_true h
theorem gatB_less {n g : Nat} {G : Nat → Int} (h : gatB n g G = true) : gatB n (g - 1) (fun i => G (i + 1)) = true := by
  unfold gatB at h ⊢
  rw [Bool.and_eq_true] at h ⊢
  have h1 : g ≤ 16 := of_decide_eq_true h.1
  exact ⟨decide_eq_true (by omega), evB_mk (fun i hi => evB_true h.2 (i + 1) (by omega))⟩
theorem lksB_less {n : Nat} {T : Nat → Int × Int × Int × Nat} {l : Nat} {ni nt : Nat → Nat} {In Tb : Nat → Nat → Int} (h : lksB n T l ni nt In Tb = true) : lksB n T (l - 1) (fun i => ni (i + 1)) (fun i => nt (i + 1)) (fun i => In (i + 1)) (fun i => Tb (i + 1)) = true := by
  unfold lksB at h ⊢
  rw [Bool.and_eq_true] at h ⊢
  have h1 : l ≤ 4 := of_decide_eq_true h.1
  exact ⟨decide_eq_true (by omega), evB_mk (fun i hi => evB_true h.2 (i + 1) (by omega))⟩
theorem eqP_dist {F A I : Int} {E : Nat → Int × Int} {i : Nat} (h : eqP F A I E i = true) : (¬ ∃ j, j < i ∧ E j = E i) ∧ (decide (0 ≤ (E i).2) && decide ((E i).2 < colOf F A I (E i).1)) = true := by
  unfold eqP at h
  rw [Bool.and_eq_true] at h
  refine ⟨fun hx => ?_, h.2⟩
  have h1 := h.1
  rw [decide_eq_true hx] at h1
  cases h1
theorem eqB_less {F A I : Int} {m : Nat} {E : Nat → Int × Int} (h : eqB F A I m E = true) : eqB F A I (m - 1) (fun i => E (i + 1)) = true := by
  unfold eqB at h ⊢
  rw [Bool.and_eq_true] at h ⊢
  have h1 : m ≤ 8 := of_decide_eq_true h.1
  refine ⟨decide_eq_true (by omega), evB_mk (fun i hi => ?_)⟩
  obtain ⟨h2, h3⟩ := eqP_dist (evB_true h.2 (i + 1) (by omega))
  unfold eqP
  rw [Bool.and_eq_true]
  refine ⟨?_, h3⟩
  rw [decide_eq_false (fun ⟨j, hj, he⟩ => h2 ⟨j + 1, by omega, he⟩)]
  rfl
theorem grt_less (D G : Nat → Int) : ∀ g, grt D (fun i => G (i + 1)) g ≤ grt D G (g + 1)
  | 0 => by
    show (0 : Int) ≤ max 0 (D (G 0).toNat)
    omega
  | g + 1 => by
    have ih := grt_less D G g
    show max (grt D (fun i => G (i + 1)) g) (D (G (g + 1)).toNat) ≤ max (grt D G (g + 1)) (D (G (g + 1)).toNat)
    omega
theorem grt_tail (D G : Nat → Int) (g : Nat) : grt D (fun i => G (i + 1)) (g - 1) ≤ grt D G g := by
  rcases Nat.eq_zero_or_pos g with h | h
  · subst h
    exact Int.le_refl _
  · have := grt_less D G (g - 1)
    rw [show g - 1 + 1 = g by omega] at this
    exact this
theorem dgL_zero (D G : Nat → Int) (g l m : Nat) (ni nt : Nat → Nat) (In Tb : Nat → Nat → Int) : dgL D (fun i => G (i + 1)) (g - 1) (l - 1) (m - 1) (fun i => ni (i + 1)) (fun i => nt (i + 1)) (fun i => In (i + 1)) (fun i => Tb (i + 1)) 0 ≤ dgL D G g l m ni nt In Tb 0 := by
  show max (if 0 < l - 1 ∨ 0 < m - 1 then 4 else 3) (grt D (fun i => G (i + 1)) (g - 1) + 1) ≤ max (if 0 < l ∨ 0 < m then 4 else 3) (grt D G g + 1)
  have h := grt_tail D G g
  have hb : (if 0 < l - 1 ∨ 0 < m - 1 then (4 : Int) else 3) ≤ (if 0 < l ∨ 0 < m then 4 else 3) := by
    by_cases h1 : 0 < l - 1 ∨ 0 < m - 1
    · rw [if_pos h1, if_pos (by omega)]; exact Int.le_refl _
    · rw [if_neg h1]; split <;> decide
  omega
theorem dgL_less (D G : Nat → Int) (g l m : Nat) (ni nt : Nat → Nat) (In Tb : Nat → Nat → Int) : ∀ i, dgL D (fun i => G (i + 1)) (g - 1) (l - 1) (m - 1) (fun i => ni (i + 1)) (fun i => nt (i + 1)) (fun i => In (i + 1)) (fun i => Tb (i + 1)) i ≤ dgL D G g l m ni nt In Tb (i + 1)
  | 0 => by
    have h := dgL_zero D G g l m ni nt In Tb
    show dgL D (fun i => G (i + 1)) (g - 1) (l - 1) (m - 1) (fun i => ni (i + 1)) (fun i => nt (i + 1)) (fun i => In (i + 1)) (fun i => Tb (i + 1)) 0 ≤ max (dgL D G g l m ni nt In Tb 0) (2 + grt D (In 0) (ni 0) + grt D (Tb 0) (nt 0))
    omega
  | i + 1 => by
    have ih := dgL_less D G g l m ni nt In Tb i
    show max (dgL D (fun i => G (i + 1)) (g - 1) (l - 1) (m - 1) (fun i => ni (i + 1)) (fun i => nt (i + 1)) (fun i => In (i + 1)) (fun i => Tb (i + 1)) i) (2 + grt D (In (i + 1)) (ni (i + 1)) + grt D (Tb (i + 1)) (nt (i + 1))) ≤ max (dgL D G g l m ni nt In Tb (i + 1)) (2 + grt D (In (i + 1)) (ni (i + 1)) + grt D (Tb (i + 1)) (nt (i + 1)))
    omega
theorem dgL_tail (D G : Nat → Int) (g l m : Nat) (ni nt : Nat → Nat) (In Tb : Nat → Nat → Int) : dgL D (fun i => G (i + 1)) (g - 1) (l - 1) (m - 1) (fun i => ni (i + 1)) (fun i => nt (i + 1)) (fun i => In (i + 1)) (fun i => Tb (i + 1)) (l - 1) ≤ dgL D G g l m ni nt In Tb l := by
  rcases Nat.eq_zero_or_pos l with h | h
  · subst h
    exact dgL_zero D G g 0 m ni nt In Tb
  · have := dgL_less D G g l m ni nt In Tb (l - 1)
    rw [show l - 1 + 1 = l by omega] at this
    exact this
theorem rgtB_less {n : Nat} {T : Nat → Int × Int × Int × Nat} {F A I : Int} {g : Nat} {G : Nat → Int} {l : Nat} {ni nt : Nat → Nat} {In Tb : Nat → Nat → Int} {m : Nat} {E : Nat → Int × Int} (h : rgtB n T F A I g G l ni nt In Tb m E = true) :
    rgtB n T F A I (g - 1) (fun i => G (i + 1)) (l - 1) (fun i => ni (i + 1)) (fun i => nt (i + 1)) (fun i => In (i + 1)) (fun i => Tb (i + 1)) (m - 1) (fun i => E (i + 1)) = true := by
  obtain ⟨h1, h2, h3, h4, h5⟩ := rgtB_true h
  unfold rgtB
  rw [h1, gatB_less h2, lksB_less h3, eqB_less h4]
  have h6 := dgL_tail (dgs T n) G g l m ni nt In Tb
  simp only [Bool.true_and]
  exact decide_eq_true (by omega)
/-- How many of the first j columns are in none of the nodes' queries. -/
def nwE (T : Nat → Int × Int × Int × Nat) (n : Nat) (E : Nat → Int × Int) : Nat → Nat
  | 0 => 0
  | j + 1 => nwE T n E j + (if memB (qN T n) (qF T n) (eqQ E j) = true then 0 else 1)
theorem cq_mem (T : Nat → Int × Int × Int × Nat) (n : Nat) (E : Nat → Int × Int) : ∀ j q, (∃ i, i < (cq T n E j).1 ∧ (cq T n E j).2 i = q) ↔ ((∃ i, i < qN T n ∧ qF T n i = q) ∨ ∃ i, i < j ∧ eqQ E i = q)
  | 0, q => ⟨fun h => Or.inl h, fun h => h.elim id (fun ⟨i, hi, _⟩ => by omega)⟩
  | j + 1, q => by
    have ih := cq_mem T n E j
    by_cases hm : memB (cq T n E j).1 (cq T n E j).2 (eqQ E j) = true
    · have hc : cq T n E (j + 1) = cq T n E j := if_pos hm
      rw [hc, ih q]
      constructor
      · rintro (h | ⟨i, hi, h⟩)
        · exact Or.inl h
        · exact Or.inr ⟨i, by omega, h⟩
      · rintro (h | ⟨i, hi, h⟩)
        · exact Or.inl h
        · rcases Nat.lt_or_ge i j with h1 | h1
          · exact Or.inr ⟨i, h1, h⟩
          · have h2 := (ih (eqQ E j)).mp (of_decide_eq_true hm)
            rw [show i = j by omega] at h
            rw [← h]
            exact h2
    · have hc : cq T n E (j + 1) = ((cq T n E j).1 + 1, fun i => if i = (cq T n E j).1 then eqQ E j else (cq T n E j).2 i) := if_neg hm
      rw [hc]
      dsimp only
      constructor
      · rintro ⟨i, hi, h⟩
        by_cases h1 : i = (cq T n E j).1
        · rw [if_pos h1] at h
          exact Or.inr ⟨j, by omega, h⟩
        · rw [if_neg h1] at h
          rcases (ih q).mp ⟨i, by omega, h⟩ with h2 | ⟨k, hk, h2⟩
          · exact Or.inl h2
          · exact Or.inr ⟨k, by omega, h2⟩
      · intro h
        have h3 : (∃ i, i < (cq T n E j).1 ∧ (cq T n E j).2 i = q) ∨ eqQ E j = q := by
          rcases h with h | ⟨i, hi, h⟩
          · exact Or.inl ((ih q).mpr (Or.inl h))
          · rcases Nat.lt_or_ge i j with h1 | h1
            · exact Or.inl ((ih q).mpr (Or.inr ⟨i, h1, h⟩))
            · rw [show i = j by omega] at h; exact Or.inr h
        rcases h3 with ⟨i, hi, h⟩ | h
        · exact ⟨i, by omega, by rw [if_neg (by omega)]; exact h⟩
        · exact ⟨(cq T n E j).1, by omega, by rw [if_pos rfl]; exact h⟩
theorem cq_count (T : Nat → Int × Int × Int × Nat) (n : Nat) (E : Nat → Int × Int) (m : Nat) (hd : ∀ i, i < m → ¬ ∃ j, j < i ∧ E j = E i) : ∀ j, j ≤ m → (cq T n E j).1 = qN T n + nwE T n E j
  | 0, _ => rfl
  | j + 1, hj => by
    have ih := cq_count T n E m hd j (by omega)
    have hmem := cq_mem T n E j (eqQ E j)
    have hno : ¬ ∃ i, i < j ∧ eqQ E i = eqQ E j := fun ⟨i, hi, h⟩ => hd j (by omega) ⟨i, hi, by
      unfold eqQ at h
      simp only [Prod.mk.injEq, and_true] at h
      exact Prod.ext h.1 h.2⟩
    show (if memB (cq T n E j).1 (cq T n E j).2 (eqQ E j) = true then cq T n E j else ((cq T n E j).1 + 1, fun i => if i = (cq T n E j).1 then eqQ E j else (cq T n E j).2 i)).1 = qN T n + (nwE T n E j + (if memB (qN T n) (qF T n) (eqQ E j) = true then 0 else 1))
    by_cases h0 : memB (qN T n) (qF T n) (eqQ E j) = true
    · rw [if_pos h0, if_pos (show memB (cq T n E j).1 (cq T n E j).2 (eqQ E j) = true from decide_eq_true (hmem.mpr (Or.inl (of_decide_eq_true h0))))]
      omega
    · rw [if_neg h0, if_neg (show ¬ memB (cq T n E j).1 (cq T n E j).2 (eqQ E j) = true from fun h => by
        rcases hmem.mp (of_decide_eq_true h) with h1 | h1
        · exact h0 (decide_eq_true h1)
        · exact hno h1)]
      show (cq T n E j).1 + 1 = _
      omega
theorem nwE_less (T : Nat → Int × Int × Int × Nat) (n : Nat) (E : Nat → Int × Int) : ∀ j, nwE T n (fun i => E (i + 1)) j ≤ nwE T n E (j + 1)
  | 0 => Nat.zero_le _
  | j + 1 => by
    have ih := nwE_less T n E j
    show nwE T n (fun i => E (i + 1)) j + (if memB (qN T n) (qF T n) (eqQ E (j + 1)) = true then 0 else 1) ≤ nwE T n E (j + 1) + (if memB (qN T n) (qF T n) (eqQ E (j + 1)) = true then 0 else 1)
    omega
theorem cq_less {F A I : Int} {T : Nat → Int × Int × Int × Nat} {n : Nat} {E : Nat → Int × Int} {m : Nat} (h : eqB F A I m E = true) : (cq T n (fun i => E (i + 1)) (m - 1)).1 ≤ (cq T n E m).1 := by
  have hd : ∀ i, i < m → ¬ ∃ j, j < i ∧ E j = E i := fun i hi => by
    unfold eqB at h
    rw [Bool.and_eq_true] at h
    exact (eqP_dist (evB_true h.2 i hi)).1
  rw [cq_count T n E m hd m (Nat.le_refl _), cq_count T n (fun i => E (i + 1)) (m - 1) (fun i hi ⟨j, hj, he⟩ => hd (i + 1) (by omega) ⟨j + 1, by omega, he⟩) (m - 1) (Nat.le_refl _)]
  rcases Nat.eq_zero_or_pos m with h0 | h0
  · subst h0
    exact Nat.le_refl _
  · have h1 := nwE_less T n E (m - 1)
    rw [show m - 1 + 1 = m by omega] at h1
    omega
/-- A list without its first row. -/
theorem Rs.tail {w : World} {v : Value} {s n : Nat} {F : Nat → Nat → Value} {b o c : Nat} (h : Rs w v s n F) (hv : v = .slice (some ⟨b, o, none⟩) n c) (hn : 0 < n) (oa : Option Addr) (hoa : oa = if c = 1 then some ⟨b, o, none⟩ else some ⟨b, o + s, none⟩) : Rs w (.slice oa (n - 1) (c - 1)) s (n - 1) (fun i => F (i + 1)) := by
  rcases h with ⟨h, _⟩ | ⟨b', o', c', h, h1, h2, h3, h4⟩
  · rw [h] at hv; cases hv
  · rw [hv] at h
    cases h
    by_cases hc : c = 1
    · rw [hoa, if_pos hc]
      exact Or.inr ⟨b, o, c - 1, rfl, by omega, by omega, h3, fun i hi => by omega⟩
    · rw [hoa, if_neg hc]
      refine Or.inr ⟨b, o + s, c - 1, rfl, by omega, by omega, h3, fun i hi j hj => ?_⟩
      have h5 := h4 (i + 1) (by omega) j hj
      rw [Nat.add_mul, Nat.one_mul] at h5
      rw [show o + s + i * s + j = o + (i * s + s) + j by omega]
      exact h5

end Go.Proofs.Ytbhljgenicahoaa
