/- domain: join. -/
import Derived.Test.YtpkhppjcpfkbmaaDoorD6
namespace Go.Proofs.YtpkhppjcpfkbmaaDoor
open Go.RowKit

def Kp (W w' : World) : Prop := Below W.heap.size W w'
theorem pkA {W w : World} (hS : Below W.heap.size W w) : ∃ (N : Nat) (w' : World), w.heap.size = N ∧ w.alloc (.cells #[.int .u64 0, .int .u64 0, .int .u64 0, .int .u64 0] 24) = w' ∧ Below W.heap.size W w' ∧ Blk w' 24 N (fun _ => 0) ∧ W.heap.size ≤ N ∧ Below w.heap.size w w' :=
  ⟨_, _, rfl, rfl, bAlloc hS _, Blk.new w 24 (fun _ => 0), hS.size, (Below.refl _ _).alloc (Nat.le_refl _) _⟩
theorem pkD (W : World) : ∃ (N : Nat) (w' : World), W.heap.size = N ∧ (W.alloc (.cells #[.int .u64 0, .int .u64 0, .int .u64 0, .int .u64 0] 24)).drew = w' ∧ Below W.heap.size W w' ∧ Blk w' 24 N (fun _ => 0) ∧ W.heap.size ≤ N ∧ Below W.heap.size W.drew w' :=
  ⟨_, _, rfl, rfl, (bAlloc (Below.refl _ _) _).drew, (Blk.new W 24 (fun _ => 0)).drew, Nat.le_refl _, ((Below.refl _ W.drew).alloc (Nat.le_refl _) _)⟩
/-- A variable that is new is written. -/
theorem pkS {W w : World} {N : Nat} {f : Nat → Nat} (b : Blk w 24 N f) (hS : Below W.heap.size W w) (hl : W.heap.size ≤ N) (v : Nat) :
    ∃ w' : World, (((w.setCell ⟨N, 0, none⟩ (.int .u64 ((limb 0 v : Nat) : Int))).setCell ⟨N, 1, none⟩ (.int .u64 ((limb 1 v : Nat) : Int))).setCell ⟨N, 2, none⟩ (.int .u64 ((limb 2 v : Nat) : Int))).setCell ⟨N, 3, none⟩ (.int .u64 ((limb 3 v : Nat) : Int)) = w' ∧ Below W.heap.size W w' ∧ Blk w' 24 N (fun i => limb i v) ∧ ∀ {M : Nat} {g : Nat → Nat}, Blk w 24 M g → M ≠ N → Blk w' 24 M g :=
  ⟨_, rfl, bSet4 hS hl _ _ _ _, b.set4 (fun i => limb i v), fun h ne => h.other4 ne _ _ _ _⟩


theorem BlkE.at4 {w : World} {b n k o : Nat} {f : Nat → Nat} (h : BlkE w b n f) (hk : k < n) (ho : o = k * 4) : w.cell? ⟨b, o, none⟩ = some (.int .u64 ((limb 0 (f k) : Nat) : Int)) ∧ w.cell? ⟨b, o + 1, none⟩ = some (.int .u64 ((limb 1 (f k) : Nat) : Int)) ∧ w.cell? ⟨b, o + 2, none⟩ = some (.int .u64 ((limb 2 (f k) : Nat) : Int)) ∧ w.cell? ⟨b, o + 3, none⟩ = some (.int .u64 ((limb 3 (f k) : Nat) : Int)) := by
  subst ho
  exact ⟨h.cell k hk 0 (by decide), h.cell k hk 1 (by decide), h.cell k hk 2 (by decide), h.cell k hk 3 (by decide)⟩
theorem BlkE.putAt {w : World} {b n k o : Nat} {f : Nat → Nat} (h : BlkE w b n f) (hk : k < n) (ho : o = k * 4) (x : Nat) : ∃ w', ((((w.setCell ⟨b, o, none⟩ (.int .u64 ((limb 0 x : Nat) : Int))).setCell ⟨b, o + 1, none⟩ (.int .u64 ((limb 1 x : Nat) : Int))).setCell ⟨b, o + 2, none⟩ (.int .u64 ((limb 2 x : Nat) : Int))).setCell ⟨b, o + 3, none⟩ (.int .u64 ((limb 3 x : Nat) : Int))) = w' ∧ BlkE w' b n (fun i => if i = k then x else f i) ∧ Kept b w w' := by
  subst ho
  exact h.put hk x
/-- The list when the first j of both pieces are joined. -/
def jnF (s : Nat) (P f : Nat → Nat) (e0 h st j i : Nat) : Nat :=
  if e0 ≤ i ∧ i < e0 + j then addP s (f i) (mulP s (P ((i - e0) * st)) (f (i + h)))
  else if e0 + h ≤ i ∧ i < e0 + h + j then subP s (f (i - h)) (mulP s (P ((i - (e0 + h)) * st)) (f i)) else f i
theorem jnF_old {s : Nat} {P f : Nat → Nat} {e0 h st j : Nat} (hj : j < h) : jnF s P f e0 h st j (e0 + j) = f (e0 + j) ∧ jnF s P f e0 h st j (e0 + h + j) = f (e0 + h + j) := by
  unfold jnF
  constructor
  · rw [if_neg (by omega), if_neg (by omega)]
  · rw [if_neg (by omega), if_neg (by omega)]
theorem jnF_step {s : Nat} {P f : Nat → Nat} {e0 h st j : Nat} (hj : j < h) (i : Nat) : jnF s P f e0 h st (j + 1) i = if i = e0 + h + j then subP s (f (e0 + j)) (mulP s (P (j * st)) (f (e0 + h + j))) else if i = e0 + j then addP s (f (e0 + j)) (mulP s (P (j * st)) (f (e0 + h + j))) else jnF s P f e0 h st j i := by
  by_cases h1 : i = e0 + h + j
  · subst h1
    rw [if_pos rfl]
    unfold jnF
    rw [if_neg (by omega), if_pos (by omega), show e0 + h + j - h = e0 + j by omega, show e0 + h + j - (e0 + h) = j by omega]
  · rw [if_neg h1]
    by_cases h2 : i = e0 + j
    · subst h2
      rw [if_pos rfl]
      unfold jnF
      rw [if_pos (by omega), show e0 + j - e0 = j by omega, show e0 + j + h = e0 + h + j by omega]
    · rw [if_neg h2]
      unfold jnF
      by_cases h3 : e0 ≤ i ∧ i < e0 + j
      · rw [if_pos h3, if_pos (by omega)]
      · rw [if_neg h3, if_neg (by omega)]
        by_cases h4 : e0 + h ≤ i ∧ i < e0 + h + j
        · rw [if_pos h4, if_pos (by omega)]
        · rw [if_neg h4, if_neg (by omega)]
end Go.Proofs.YtpkhppjcpfkbmaaDoor
