/- What expr needs of the texts on circuits. -/
import Derived.Test.YtimjgebiffemnaaDoorCCK
import Derived.DeepKeys4
namespace Go.Proofs.YtimjgebiffemnaaDoor
open Go.RowKit
open Go.Maps

/-- All blocks that were there are kept, but those of S. -/
def KS (S : Nat → Prop) (w w' : World) : Prop := w'.os = w.os ∧ w'.tape = w.tape ∧ w'.output = w.output ∧ w.heap.size ≤ w'.heap.size ∧ ∀ b, b < w.heap.size → ¬ S b → w'.heap[b]? = w.heap[b]?
section
variable {S : Nat → Prop} {w w1 w' : World}
theorem KS.refl (S : Nat → Prop) (w : World) : KS S w w := ⟨rfl, rfl, rfl, Nat.le_refl _, fun _ _ _ => rfl⟩
theorem KS.trans (h : KS S w w1) (k : KS S w1 w') : KS S w w' := ⟨k.1.trans h.1, k.2.1.trans h.2.1, k.2.2.1.trans h.2.2.1, Nat.le_trans h.2.2.2.1 k.2.2.2.1, fun b hb hs => (k.2.2.2.2 b (Nat.lt_of_lt_of_le hb h.2.2.2.1) hs).trans (h.2.2.2.2 b hb hs)⟩
theorem KS.of (h : Below w.heap.size w w') : KS S w w' := ⟨h.os, h.tape, h.output, h.size, fun b hb _ => h.block b hb⟩
theorem KS.size (h : KS S w w') : w.heap.size ≤ w'.heap.size := h.2.2.2.1
theorem KS.block (h : KS S w w') {b : Nat} (hb : b < w.heap.size) (hs : ¬ S b) : w'.heap[b]? = w.heap[b]? := h.2.2.2.2 b hb hs
theorem KS.below (h : KS S w w') {m : Nat} (hm : m ≤ w.heap.size) (hs : ∀ b, S b → m ≤ b) : Below m w w' := ⟨h.1, h.2.1, h.2.2.1, h.2.2.2.1, fun b hb => h.2.2.2.2 b (by omega) (fun e => by have := hs b e; omega)⟩
theorem KS.setCell (w : World) (a : Addr) (v : Value) (ha : S a.block) : KS S w (w.setCell a v) := ⟨rfl, rfl, rfl, by simp [World.setCell], fun b _ hs => Below.heap_setCell w a v b (fun e => hs (e ▸ ha))⟩
theorem KS.cell (h : KS S w w') {b o : Nat} (hb : b < w.heap.size) (hs : ¬ S b) : w'.cell? ⟨b, o, none⟩ = w.cell? ⟨b, o, none⟩ := World.cell?_of_block (w := w) (h.block hb hs)
theorem Rs.ks {v : Value} {s n : Nat} {F : Nat → Nat → Value} (h : Rs w v s n F) (hs : ∀ b o c, v = .slice (some ⟨b, o, none⟩) n c → ¬ S b) (hk : KS S w w') : Rs w' v s n F := by
  rcases h with h | ⟨b, o, c, hv, h1, h2, h3, h4⟩
  · exact Or.inl h
  · refine Or.inr ⟨b, o, c, hv, h1, h2, Nat.lt_of_lt_of_le h3 hk.size, fun i hi j hj => ?_⟩
    rw [hk.cell h3 (hs b o c hv)]
    exact h4 i hi j hj
end
theorem cell_of_block {w : World} {b : Nat} {c : Array Value} {t : TypeId} (h : w.heap[b]? = some (.cells c t)) (o : Nat) : w.cell? ⟨b, o, none⟩ = c[o]? := by simp [World.cell?, h]
theorem cells7 {w : World} {b : Nat} {t : TypeId} {v0 v1 v2 v3 v4 v5 v6 : Value} (h : w.heap[b]? = some (.cells #[v0, v1, v2, v3, v4, v5, v6] t)) : w.cell? ⟨b, 0, none⟩ = some v0 ∧ w.cell? ⟨b, 1, none⟩ = some v1 ∧ w.cell? ⟨b, 2, none⟩ = some v2 ∧ w.cell? ⟨b, 3, none⟩ = some v3 ∧ w.cell? ⟨b, 4, none⟩ = some v4 ∧ w.cell? ⟨b, 5, none⟩ = some v5 ∧ w.cell? ⟨b, 6, none⟩ = some v6 :=
  ⟨cell_of_block h 0, cell_of_block h 1, cell_of_block h 2, cell_of_block h 3, cell_of_block h 4, cell_of_block h 5, cell_of_block h 6⟩
theorem chk_any (n cn : Nat) (oa : Option Addr) (T : Nat → Int × Int × Int × Nat) (F A I : Int) (hF : rng F) (hA : rng A) (hI : rng I) (w : World) (hv : Rs w (.slice oa n cn) 7 n (fun i => nC (T i))) :
    Calls Tryd.prog 10 #[.slice oa n cn, .int .i64 F, .int .i64 A, .int .i64 I] w fun e w' => e = .returned (.int .i64 (err (chkB n T F A I) 110)) ∧ Below w.heap.size w w' := by
  by_cases h : n ≤ 64
  · exact check_in n cn oa T F A I hF hA hI h w hv
  · refine (check_long n cn oa F A I (by omega) w).mono ?_
    rintro e w' ⟨rfl, rfl⟩
    refine ⟨?_, Below.refl _ _⟩
    unfold chkB
    rw [decide_eq_false h, Bool.false_and]
    rfl
theorem chkB_true {n : Nat} {T : Nat → Int × Int × Int × Nat} {F A I : Int} (h : chkB n T F A I = true) : n ≤ 64 ∧ ordB n T = true ∧ ∀ i, i < n → fitN (T i) F A I = true := by
  unfold chkB at h
  rw [Bool.and_eq_true, Bool.and_eq_true] at h
  exact ⟨of_decide_eq_true h.1, h.2.1, of_decide_eq_true h.2.2⟩
theorem laidOutT : laidOutB Tryd.prog = true := by kernel_rfl
theorem zeroU (w : World) : (zeroValue 71).run Tryd.prog w = .ok (.agg #[]) w := by kernel_rfl
def memB (n : Nat) (Q : Nat → Int × Int × Int) (q : Int × Int × Int) : Bool := decide (∃ i, i < n ∧ Q i = q)
def IdxP (e : Ending) (n : Nat) (Q : Nat → Int × Int × Int) (q : Int × Int × Int) : Prop := ∃ r : Int, e = .returned (.int .i64 r) ∧ ((0 ≤ r ∧ memB n Q q = true) ∨ (r < 0 ∧ memB n Q q = false))
theorem ite3 (q p : Int × Int × Int) (w : World) : (if q.1 = p.1 then if q.2.1 = p.2.1 then if q.2.2 = p.2.2 then Result.ok (Next.value (.bool true)) w else Result.ok (Next.value (.bool false)) w else Result.ok (Next.value (.bool false)) w else Result.ok (Next.value (.bool false)) w) = Result.ok (Next.value (.bool (decide (q = p)))) w := by
  obtain ⟨a, b, c⟩ := q
  obtain ⟨x, y, z⟩ := p
  by_cases h1 : a = x <;> by_cases h2 : b = y <;> by_cases h3 : c = z <;> simp [h1, h2, h3]
theorem put_some {b : Nat} {t : TypeId} : ∀ (vs : List Value) (o : Nat) (w : World) (old : Array Value), w.heap[b]? = some (.cells old t) → o + vs.length ≤ old.size →
    ∃ new : Array Value, (w.setCells b o vs).heap[b]? = some (.cells new t) ∧ new.size = old.size ∧ (∀ j, new[j]? = if o ≤ j ∧ j < o + vs.length then vs[j - o]? else old[j]?) ∧ KS (fun x => x = b) w (w.setCells b o vs)
  | [], o, w, old, h, _ => ⟨old, h, rfl, fun j => by rw [if_neg (by simp)], KS.refl _ _⟩
  | v :: r, o, w, old, h, hl => by
    have h1 : (w.setCell ⟨b, o, none⟩ v).heap[b]? = some (.cells (old.setIfInBounds o v) t) := by simp [World.setCell, Array.getElem?_modify, h]
    obtain ⟨new, n1, n2, n3, n4⟩ := put_some r (o + 1) (w.setCell ⟨b, o, none⟩ v) (old.setIfInBounds o v) h1 (by simp at hl ⊢; omega)
    refine ⟨new, n1, by rw [n2]; simp, fun j => ?_, (KS.setCell (S := fun x => x = b) w ⟨b, o, none⟩ v rfl).trans n4⟩
    rw [n3 j]
    have hlen : (v :: r).length = r.length + 1 := rfl
    by_cases hj : j = o
    · subst hj
      rw [if_neg (by omega), if_pos (by omega), Nat.sub_self, Array.getElem?_setIfInBounds_self_of_lt (by rw [hlen] at hl; omega)]
      rfl
    · by_cases hk : o + 1 ≤ j ∧ j < o + 1 + r.length
      · rw [if_pos hk, if_pos (by omega), show j - o = (j - (o + 1)) + 1 by omega]
        rfl
      · rw [if_neg hk, if_neg (by omega), Array.getElem?_setIfInBounds_ne (fun e => hj e.symm)]
/-- A whole block is written. -/
theorem put_all {b : Nat} {t : TypeId} {w : World} {old : Array Value} (vs : Array Value) (h : w.heap[b]? = some (.cells old t)) (hl : vs.size = old.size) :
    ∃ w', w.setCells b 0 vs.toList = w' ∧ w'.heap[b]? = some (.cells vs t) ∧ KS (fun x => x = b) w w' ∧ w.there b 0 vs.size := by
  obtain ⟨new, n1, n2, n3, n4⟩ := put_some vs.toList 0 w old h (by simp; omega)
  refine ⟨_, rfl, ?_, n4, fun j hj => ?_⟩
  · rw [n1]
    congr 2
    refine Array.ext (by omega) (fun i h1 h2 => ?_)
    have h3 := n3 i
    rw [if_pos (by simp; omega), Nat.sub_zero, Array.getElem?_toList, Array.getElem?_eq_getElem h1, Array.getElem?_eq_getElem h2] at h3
    exact Option.some.inj h3
  · rw [Nat.zero_add]
    refine ⟨?_, ?_⟩
    · rw [cell_of_block h j, Array.getElem?_eq_getElem (by omega)]
      rfl
    · simp [World.frozen?, h]

end Go.Proofs.YtimjgebiffemnaaDoor
