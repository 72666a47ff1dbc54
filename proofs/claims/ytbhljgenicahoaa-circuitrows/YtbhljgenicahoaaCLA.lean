/- A whole block is written; circuits in memory. No walk. -/
import Derived.Test.YtbhljgenicahoaaCL9
import Derived.Laws.Rows
import Derived.Deep.MidRow
namespace Go.Proofs.Ytbhljgenicahoaa
open Go.RowKit

theorem put_some {b : Nat} {t : TypeId} : ∀ (vs : List Value) (o : Nat) (w : World) (old : Array Value), w.heap[b]? = some (.cells old t) → o + vs.length ≤ old.size →
    ∃ new : Array Value, (w.setCells b o vs).heap[b]? = some (.cells new t) ∧ new.size = old.size ∧ (∀ j, new[j]? = if o ≤ j ∧ j < o + vs.length then vs[j - o]? else old[j]?) ∧ KS (fun x => x = b) w (w.setCells b o vs)
  | [], o, w, old, h, _ => ⟨old, h, rfl, fun j => by rw [if_neg (by simp)], KS.refl _ _⟩
  | v :: r, o, w, old, h, hl => by
    have h1 : (w.setCell ⟨b, o, none⟩ v).heap[b]? = some (.cells (old.setIfInBounds o v) t) := by simp [World.setCell, Array.getElem?_modify, h]
    obtain ⟨new, n1, n2, n3, n4⟩ := put_some r (o + 1) (w.setCell ⟨b, o, none⟩ v) (old.setIfInBounds o v) h1 (by simp at hl ⊢; omega)
    refine ⟨new, n1, by rw [n2]; simp, fun j => ?_, (KS.setCell (S := fun x => x = b) w ⟨b, o, none⟩ v rfl).trans n4⟩
    rw [n3 j]
    have hlen : (v :: r).length = r.length + 1 := rfl
    by_cases hj : j = o
    · subst hj
      rw [if_neg (by omega), if_pos (by omega), Nat.sub_self, Array.getElem?_setIfInBounds_self_of_lt (by rw [hlen] at hl; omega)]
      rfl
    · by_cases hk : o + 1 ≤ j ∧ j < o + 1 + r.length
      · rw [if_pos hk, if_pos (by omega), show j - o = (j - (o + 1)) + 1 by omega]
        rfl
      · rw [if_neg hk, if_neg (by omega), Array.getElem?_setIfInBounds_ne (fun e => hj e.symm)]
/-- A whole block is written. -/
theorem put_all {b : Nat} {t : TypeId} {w : World} {old : Array Value} (vs : Array Value) (h : w.heap[b]? = some (.cells old t)) (hl : vs.size = old.size) :
    ∃ w', w.setCells b 0 vs.toList = w' ∧ w'.heap[b]? = some (.cells vs t) ∧ KS (fun x => x = b) w w' ∧ w.there b 0 vs.size := by
  obtain ⟨new, n1, n2, n3, n4⟩ := put_some vs.toList 0 w old h (by simp; omega)
  refine ⟨_, rfl, ?_, n4, fun j hj => ?_⟩
  · rw [n1]
    congr 2
    refine Array.ext (by omega) (fun i h1 h2 => ?_)
    have h3 := n3 i
    rw [if_pos (by simp; omega), Nat.sub_zero, Array.getElem?_toList, Array.getElem?_eq_getElem h1, Array.getElem?_eq_getElem h2] at h3
    exact Option.some.inj h3
  · rw [Nat.zero_add]
    refine ⟨?_, ?_⟩
    · rw [cell_of_block h j, Array.getElem?_eq_getElem (by omega)]
      rfl
    · simp [World.frozen?, h]
/-- A circuit's four lists. -/
def Cir (w : World) (nv gv lv ev : Value) (n : Nat) (T : Nat → Int × Int × Int × Nat) (g : Nat) (G : Nat → Int) (l : Nat) (f : Nat → Value × Value) (ni nt : Nat → Nat) (In Tb : Nat → Nat → Int) (m : Nat) (E : Nat → Int × Int) : Prop :=
  Rs w nv 7 n (fun i => nC (T i)) ∧ Zs w gv g G ∧ Lks w lv l f ni nt In Tb ∧ Cls w ev m E
theorem Cir.below {w w' : World} {nv gv lv ev : Value} {n : Nat} {T : Nat → Int × Int × Int × Nat} {g : Nat} {G : Nat → Int} {l : Nat} {f : Nat → Value × Value} {ni nt : Nat → Nat} {In Tb : Nat → Nat → Int} {m : Nat} {E : Nat → Int × Int} (h : Cir w nv gv lv ev n T g G l f ni nt In Tb m E) (hb : Below w.heap.size w w') : Cir w' nv gv lv ev n T g G l f ni nt In Tb m E :=
  ⟨h.1.below hb, Zs.below h.2.1 hb, h.2.2.1.below hb, h.2.2.2.below hb⟩
/-- The numbers of a circuit are numbers of 64 bits. -/
def Rng (F A I : Int) (m : Nat) (E : Nat → Int × Int) : Prop := rng F ∧ rng A ∧ rng I ∧ ∀ j, j < m → rng (E j).1 ∧ rng (E j).2

end Go.Proofs.Ytbhljgenicahoaa
