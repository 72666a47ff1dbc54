/- Lists put in order: inserting, taking one of each value away, and what stands beside the others. No program is named here. -/
import Derived.Test.YtfdddpndjmookaaGreatDoorBA
namespace Go.Proofs.YtfdddpndjmookaaGreatDoor
open Go.RowKit

/-- v put into a rising list, behind its equals. -/
def ins (v : Nat) : List Nat → List Nat
  | [] => [v]
  | x :: l => if v < x then v :: x :: l else x :: ins v l
/-- The numbers of a list, rising. -/
def rsg (l : List Nat) : List Nat := l.foldl (fun a v => ins v a) []
def Asc (l : List Nat) : Prop := l.Pairwise (fun a b => a ≤ b)
theorem ins_perm (v : Nat) : ∀ l, (ins v l).Perm (v :: l)
  | [] => List.Perm.refl _
  | x :: l => by
    unfold ins
    split
    · exact List.Perm.refl _
    · exact ((ins_perm v l).cons x).trans (List.Perm.swap v x l)
theorem ins_len (v : Nat) (l : List Nat) : (ins v l).length = l.length + 1 := by rw [(ins_perm v l).length_eq]; rfl
theorem ins_asc (v : Nat) : ∀ l, Asc l → Asc (ins v l)
  | [], _ => List.pairwise_cons.2 ⟨fun _ h => (by cases h), List.Pairwise.nil⟩
  | x :: l, h => by
    obtain ⟨h1, h2⟩ := List.pairwise_cons.1 h
    unfold ins
    split
    · next hv =>
      refine List.pairwise_cons.2 ⟨fun a ha => ?_, h⟩
      rcases List.mem_cons.1 ha with rfl | ha
      · omega
      · have := h1 a ha; omega
    · next hv =>
      refine List.pairwise_cons.2 ⟨fun a ha => ?_, ins_asc v l h2⟩
      rcases List.mem_cons.1 ((ins_perm v l).mem_iff.1 ha) with rfl | ha
      · omega
      · exact h1 a ha
theorem fold_perm : ∀ (l a : List Nat), (l.foldl (fun a v => ins v a) a).Perm (l ++ a)
  | [], a => List.Perm.refl _
  | v :: l, a => by
    refine (fold_perm l (ins v a)).trans ?_
    exact ((ins_perm v a).append_left l).trans List.perm_middle
theorem fold_asc : ∀ (l a : List Nat), Asc a → Asc (l.foldl (fun a v => ins v a) a)
  | [], _, h => h
  | v :: l, a, h => fold_asc l (ins v a) (ins_asc v a h)
theorem rsg_perm (l : List Nat) : (rsg l).Perm l := by have h := fold_perm l []; rwa [List.append_nil] at h
theorem rsg_asc (l : List Nat) : Asc (rsg l) := fold_asc l [] List.Pairwise.nil
theorem rsg_len (l : List Nat) : (rsg l).length = l.length := (rsg_perm l).length_eq
theorem asc_unique {a b : List Nat} (ha : Asc a) (hb : Asc b) (h : a.Perm b) : a = b :=
  List.Perm.eq_of_pairwise (fun _ _ _ _ h1 h2 => Nat.le_antisymm h1 h2) ha hb h
theorem rsg_only {l a : List Nat} (ha : Asc a) (h : a.Perm l) : a = rsg l := asc_unique ha (rsg_asc l) (h.trans (rsg_perm l).symm)
theorem asc_at {l : List Nat} (h : Asc l) {i j : Nat} (hij : i ≤ j) (hj : j < l.length) : l.getD i 0 ≤ l.getD j 0 := by
  rcases Nat.lt_or_eq_of_le hij with h1 | rfl
  · have := List.pairwise_iff_getElem.1 h i j (by omega) hj h1
    simpa [List.getD_eq_getElem?_getD, List.getElem?_eq_getElem hj, List.getElem?_eq_getElem (show i < l.length by omega)] using this
  · exact Nat.le_refl _

/-- Place i is the first one of its value. -/
def isF (a : List Nat) (i : Nat) : Bool := decide (i = 0) || !decide (a.getD i 0 = a.getD (i - 1) 0)
/-- How many of the first i places aren't the first ones of their values. -/
def nf (a : List Nat) : Nat → Nat
  | 0 => 0
  | i + 1 => nf a i + (if isF a i = true then 0 else 1)
theorem nf_le (a : List Nat) : ∀ i, nf a i ≤ i
  | 0 => Nat.le_refl _
  | i + 1 => by have := nf_le a i; unfold nf; split <;> omega
theorem nf_mono (a : List Nat) : ∀ i j, i ≤ j → nf a i ≤ nf a j
  | i, 0, h => by obtain rfl : i = 0 := by omega
                  exact Nat.le_refl _
  | i, j + 1, h => by
    rcases Nat.lt_or_eq_of_le h with h | rfl
    · have := nf_mono a i j (by omega)
      show _ ≤ nf a j + _
      omega
    · exact Nat.le_refl _
/-- What is left of a list when one of each value of the first i places of another one is taken away. -/
def wo (a t : List Nat) : Nat → Option (List Nat)
  | 0 => some t
  | i + 1 => (wo a t i).bind fun l => if isF a i = true then (if a.getD i 0 ∈ l then some (l.erase (a.getD i 0)) else none) else some l
theorem wo_none {a t : List Nat} {i : Nat} : ∀ j, wo a t i = none → i ≤ j → wo a t j = none
  | 0, h, hj => by obtain rfl : i = 0 := by omega
                   exact h
  | j + 1, h, hj => by
    rcases Nat.lt_or_eq_of_le hj with h1 | rfl
    · show (wo a t j).bind _ = none
      rw [wo_none j h (by omega)]; rfl
    · exact h
theorem wo_next_skip {a t l : List Nat} {i : Nat} (h : wo a t i = some l) (hf : isF a i = false) : wo a t (i + 1) = some l := by
  show (wo a t i).bind _ = _
  rw [h]; simp [hf]
theorem wo_next_in {a t l : List Nat} {i : Nat} (h : wo a t i = some l) (hf : isF a i = true) (hm : a.getD i 0 ∈ l) : wo a t (i + 1) = some (l.erase (a.getD i 0)) := by
  show (wo a t i).bind _ = _
  rw [h]; simp only [Option.bind_some, if_pos hf, if_pos hm]
theorem wo_next_out {a t l : List Nat} {i : Nat} (h : wo a t i = some l) (hf : isF a i = true) (hm : ¬ a.getD i 0 ∈ l) : wo a t (i + 1) = none := by
  show (wo a t i).bind _ = _
  rw [h]; simp only [Option.bind_some, if_pos hf, if_neg hm]
theorem wo_len {a t : List Nat} : ∀ (i : Nat) {l : List Nat}, wo a t i = some l → l.length + i = t.length + nf a i
  | 0, l, h => by cases h; rfl
  | i + 1, l, h => by
    obtain ⟨m, hm, h1⟩ := Option.bind_eq_some_iff.1 h
    have ih := wo_len i hm
    unfold nf
    by_cases hf : isF a i = true
    · rw [if_pos hf] at h1
      by_cases hi : a.getD i 0 ∈ m
      · rw [if_pos hi] at h1
        cases h1
        have h3 := List.length_erase_of_mem hi
        have h4 := List.length_pos_of_mem hi
        rw [if_pos hf]; omega
      · rw [if_neg hi] at h1; cases h1
    · rw [if_neg hf] at h1
      cases h1
      rw [if_neg hf]; omega
/-- What stands beside place i. -/
def mtF (a l : List Nat) (i : Nat) : Nat := if isF a i = true then a.getD i 0 else l.getD (nf a i) 0
theorem mtF_first {a l : List Nat} {i : Nat} (h : isF a i = true) : mtF a l i = a.getD i 0 := if_pos h
theorem mtF_other {a l : List Nat} {i : Nat} (h : isF a i = false) : mtF a l i = l.getD (nf a i) 0 := by unfold mtF; rw [if_neg (by rw [h]; decide)]
theorem nf_first {a : List Nat} {i : Nat} (h : isF a i = true) : nf a (i + 1) = nf a i := by
  show nf a i + (if isF a i = true then 0 else 1) = _
  rw [if_pos h]; omega
theorem nf_other {a : List Nat} {i : Nat} (h : isF a i = false) : nf a (i + 1) = nf a i + 1 := by
  show nf a i + (if isF a i = true then 0 else 1) = _
  rw [if_neg (by rw [h]; decide)]
/-- Taking away the first one of a value. -/
theorem erase_at (v : Nat) : ∀ (l : List Nat) (k : Nat), k < l.length → l.getD k 0 = v → (∀ j, j < k → l.getD j 0 ≠ v) → l.erase v = l.take k ++ l.drop (k + 1)
  | [], k, h, _, _ => absurd h (Nat.not_lt_zero _)
  | x :: l, 0, _, h, _ => by
    obtain rfl : x = v := by simpa using h
    simp
  | x :: l, k + 1, hk, h, hn => by
    have hx : x ≠ v := by simpa using hn 0 (by omega)
    rw [List.erase_cons_tail (by simpa using hx), erase_at v l k (by simpa using hk) (by simpa using h) (fun j hj => by simpa using hn (j + 1) (by omega))]
    rfl
/-- A value that is in a list has a first place. -/
theorem first_place (v : Nat) : ∀ l : List Nat, v ∈ l → ∃ k, k < l.length ∧ l.getD k 0 = v ∧ ∀ j, j < k → l.getD j 0 ≠ v
  | [], h => by cases h
  | x :: l, h => by
    by_cases hx : x = v
    · exact ⟨0, by simp, by simpa using hx, fun j hj => by omega⟩
    · obtain ⟨k, h1, h2, h3⟩ := first_place v l (by rcases List.mem_cons.1 h with rfl | h
                                                    · exact absurd rfl hx
                                                    · exact h)
      refine ⟨k + 1, by simpa using h1, by simpa using h2, fun j hj => ?_⟩
      match j with
      | 0 => simpa using hx
      | j + 1 => simpa using h3 j (by omega)
theorem getD_mem {l : List Nat} {k : Nat} (h : k < l.length) : l.getD k 0 ∈ l := by
  rw [List.getD_eq_getElem?_getD, List.getElem?_eq_getElem h]; exact List.getElem_mem h
theorem getD_take {l : List Nat} {m k : Nat} (h : k < m) : (l.take m).getD k 0 = l.getD k 0 := by
  rw [List.getD_eq_getElem?_getD, List.getD_eq_getElem?_getD, List.getElem?_take_of_lt h]
/-- The list of a function's first n values. -/
def fl (n : Nat) (f : Nat → Nat) : List Nat := (List.range n).map f
theorem fl_len (n : Nat) (f : Nat → Nat) : (fl n f).length = n := by simp [fl]
theorem fl_get {n : Nat} {f : Nat → Nat} {i : Nat} (h : i < n) : (fl n f).getD i 0 = f i := by simp [fl, List.getD_eq_getElem?_getD, h]
theorem fl_congr {n : Nat} {f g : Nat → Nat} (h : ∀ i, i < n → f i = g i) : fl n f = fl n g := List.map_congr_left fun i hi => h i (by simpa using hi)
theorem fl_self (l : List Nat) : fl l.length (fun i => l.getD i 0) = l := by
  refine List.ext_getElem (by rw [fl_len]) fun i h1 h2 => ?_
  simp [fl, List.getD_eq_getElem?_getD, List.getElem?_eq_getElem h2]
theorem fl_succ (n : Nat) (f : Nat → Nat) : fl (n + 1) f = fl n f ++ [f n] := by simp [fl, List.range_succ]
theorem fl_mem {n : Nat} {f : Nat → Nat} {v : Nat} : v ∈ fl n f ↔ ∃ i, i < n ∧ f i = v := by simp [fl]
theorem mem_getD {l : List Nat} {v : Nat} (h : v ∈ l) : ∃ k, k < l.length ∧ l.getD k 0 = v := by
  obtain ⟨k, h1, h2, _⟩ := first_place v l h
  exact ⟨k, h1, h2⟩
end Go.Proofs.YtfdddpndjmookaaGreatDoor
