/- The reference of layer 17: below, rising. -/
import Derived.Test.YtobeeoelfmfpdaaDoorXLUD
namespace Go.Proofs.YtobeeoelfmfpdaaDoor
open Go.RowKit
theorem ownsRow_below {w w' : World} {base : Nat} {e : TypeId} {size : Nat} {v : Value} {n : Nat} {xs : List Value} (h : w.ownsRow base e size v n xs) (hb : Below w.heap.size w w') : w'.ownsRow base e size v n xs := by
  obtain ⟨h1, h2⟩ := h
  refine ⟨h1, ?_⟩
  rcases h2 with h2 | ⟨g, cap, cur, h3, h4, h5, h6⟩
  · exact Or.inl h2
  · refine Or.inr ⟨g, cap, cur, h3, h4, ?_, h6⟩
    have hgl : g < w.heap.size := by
      rcases Nat.lt_or_ge g w.heap.size with hl | hl
      · exact hl
      · rw [Array.getElem?_eq_none hl] at h5; cases h5
    rw [hb.block g hgl]; exact h5
/-- v is a list of the call's own: l. -/
def OwnL (w : World) (base : Nat) (v : Value) (l : List Nat) : Prop := w.ownsRow base 24 4 v l.length (els (fun i => l.getD i 0) l.length)
theorem els_push (l : List Nat) (x : Nat) : els (fun i => l.getD i 0) l.length ++ [.int .u64 ((limb 0 x : Nat) : Int), .int .u64 ((limb 1 x : Nat) : Int), .int .u64 ((limb 2 x : Nat) : Int), .int .u64 ((limb 3 x : Nat) : Int)] = els (fun i => (l ++ [x]).getD i 0) (l ++ [x]).length := by
  rw [List.length_append, List.length_singleton, els_succ]
  congr 1
  · refine els_congr (fun i hi => ?_)
    rw [List.getD_eq_getElem?_getD, List.getD_eq_getElem?_getD, List.getElem?_append_left hi]
  · simp [List.getD_eq_getElem?_getD]
theorem OwnL.push {w : World} {base : Nat} {v : Value} {l : List Nat} {x : Nat} (h : w.ownsRow base 24 4 v (l.length + 1) (els (fun i => l.getD i 0) l.length ++ [.int .u64 ((limb 0 x : Nat) : Int), .int .u64 ((limb 1 x : Nat) : Int), .int .u64 ((limb 2 x : Nat) : Int), .int .u64 ((limb 3 x : Nat) : Int)])) : OwnL w base v (l ++ [x]) := by
  unfold OwnL
  rw [els_push] at h
  rw [List.length_append, List.length_singleton] at h ⊢
  exact h
theorem OwnL.es {w : World} {base : Nat} {v : Value} {l : List Nat} (h : OwnL w base v l) : Es w v l.length (fun i => l.getD i 0) := own_Es h
theorem OwnL.below {w w' : World} {base : Nat} {v : Value} {l : List Nat} (h : OwnL w base v l) (hb : Below w.heap.size w w') : OwnL w' base v l := ownsRow_below h hb
theorem OwnL.alloc {w : World} {base : Nat} {v : Value} {l : List Nat} (h : OwnL w base v l) (o : Obj) : OwnL (w.alloc o) base v l := h.below (bAlloc (Below.refl _ _) _)
/-- v put into the first j of a list: what there is so far, and whether v is among it. -/
def InsS (v : Nat) (l : List Nat) (j : Nat) (a : List Nat) (p : Bool) : Prop :=
  (p = false ∧ ins v l = a ++ ins v (l.drop j)) ∨ (p = true ∧ ins v l = a ++ l.drop j)
theorem drop_at {l : List Nat} {j : Nat} (h : j < l.length) : l.drop j = l.getD j 0 :: l.drop (j + 1) := by
  rw [List.drop_eq_getElem_cons h, List.getD_eq_getElem?_getD, List.getElem?_eq_getElem h]; rfl
theorem InsS.on {v : Nat} {l : List Nat} {j : Nat} {a : List Nat} (h : InsS v l j a true) (hj : j < l.length) : InsS v l (j + 1) (a ++ [l.getD j 0]) true := by
  rcases h with ⟨h, _⟩ | ⟨_, h⟩
  · cases h
  · refine Or.inr ⟨rfl, ?_⟩
    rw [h, drop_at hj, List.append_assoc]; rfl
end Go.Proofs.YtobeeoelfmfpdaaDoor
