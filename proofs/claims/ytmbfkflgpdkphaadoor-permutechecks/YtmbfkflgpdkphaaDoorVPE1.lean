/- The reference's Checks, by what the callees answer. -/
import Derived.Test.YtmbfkflgpdkphaaDoorVPC9
namespace Go.Proofs.YtmbfkflgpdkphaaDoor
open Go.RowKit
theorem OwnL.none (w : World) (base : Nat) (hb : base ≤ w.heap.size) : OwnL (w.alloc (.cells #[] 24)) base (.slice (some ⟨w.heap.size, 0, none⟩) 0 0) [] :=
  ⟨rfl, Or.inr ⟨w.heap.size, 0, #[], rfl, hb, new_blockE _ _, Nat.le_refl _, by decide, rfl, rfl⟩⟩
set_option maxHeartbeats 16000000 in
set_option maxRecDepth 20000 in
/-- The reference's Checks. -/
theorem rchks_walk (si : Int) (sp : Array Value) (n m ca ab ao cb bb bo cz zb zo x fi la us be ga en p0 s1 q1 q2 q3 : Nat) (A D At Nx La jp sb eF tn tO o sh df st : Nat → Nat) (pN pO : Nat → Nat → Nat) (h0 : ¬ si < 0) (h3 : ¬ 3 < si) (hn : 0 < n ∧ n ≤ 1000) (hm : m = (n + 1) / 2) (hS : SpV sp x fi la us) (hp0 : p0 = At 0) (hen : en = At (m - 1)) (heF : ∀ j, j < m → 2 * j ≤ eF j ∧ eF j ≤ n) (hN0 : ∀ j, pN j (2 * j) = Nx j) (hO0 : ∀ j, pO j (2 * j) = At j) (w : World) (hc : CelS w zb zo m At Nx La)
    (lA : ab < w.heap.size) (hA : ∀ i, i < n → ∀ j, j < 4 → w.cell? ⟨ab, ao + i * 4 + j, none⟩ = some (.int .u64 ((limb j (A i) : Nat) : Int))) (lB : bb < w.heap.size) (hB : ∀ i, i < n → ∀ j, j < 4 → w.cell? ⟨bb, bo + i * 4 + j, none⟩ = some (.int .u64 ((limb j (D i) : Nat) : Int)))
    (hs1 : ∀ w, Calls Tryd.prog 32 #[.int .i64 si, .agg #[.int .u64 ((limb 0 (1) : Nat) : Int), .int .u64 ((limb 1 (1) : Nat) : Int), .int .u64 ((limb 2 (1) : Nat) : Int), .int .u64 ((limb 3 (1) : Nat) : Int)], .agg #[.int .u64 ((limb 0 (p0) : Nat) : Int), .int .u64 ((limb 1 (p0) : Nat) : Int), .int .u64 ((limb 2 (p0) : Nat) : Int), .int .u64 ((limb 3 (p0) : Nat) : Int)]] w fun e w' => e = .returned (.agg #[.int .u64 ((limb 0 (s1) : Nat) : Int), .int .u64 ((limb 1 (s1) : Nat) : Int), .int .u64 ((limb 2 (s1) : Nat) : Int), .int .u64 ((limb 3 (s1) : Nat) : Int)]) ∧ Below w.heap.size w w')
    (hj0 : ∀ w, Calls Tryd.prog 31 #[.int .i64 si, .agg #[.int .u64 ((limb 0 (fi) : Nat) : Int), .int .u64 ((limb 1 (fi) : Nat) : Int), .int .u64 ((limb 2 (fi) : Nat) : Int), .int .u64 ((limb 3 (fi) : Nat) : Int)], .agg #[.int .u64 ((limb 0 (s1) : Nat) : Int), .int .u64 ((limb 1 (s1) : Nat) : Int), .int .u64 ((limb 2 (s1) : Nat) : Int), .int .u64 ((limb 3 (s1) : Nat) : Int)]] w fun e w' => e = .returned (.agg #[.int .u64 ((limb 0 (jp 0) : Nat) : Int), .int .u64 ((limb 1 (jp 0) : Nat) : Int), .int .u64 ((limb 2 (jp 0) : Nat) : Int), .int .u64 ((limb 3 (jp 0) : Nat) : Int)]) ∧ Below w.heap.size w w')
    (hjs : ∀ i j, i = j + 1 → i < m → ∀ w, Calls Tryd.prog 32 #[.int .i64 si, .agg #[.int .u64 ((limb 0 (At i) : Nat) : Int), .int .u64 ((limb 1 (At i) : Nat) : Int), .int .u64 ((limb 2 (At i) : Nat) : Int), .int .u64 ((limb 3 (At i) : Nat) : Int)], .agg #[.int .u64 ((limb 0 (La j) : Nat) : Int), .int .u64 ((limb 1 (La j) : Nat) : Int), .int .u64 ((limb 2 (La j) : Nat) : Int), .int .u64 ((limb 3 (La j) : Nat) : Int)]] w fun e w' => e = .returned (.agg #[.int .u64 ((limb 0 (sb j) : Nat) : Int), .int .u64 ((limb 1 (sb j) : Nat) : Int), .int .u64 ((limb 2 (sb j) : Nat) : Int), .int .u64 ((limb 3 (sb j) : Nat) : Int)]) ∧ Below w.heap.size w w')
    (hjm : ∀ j, j + 1 < m → ∀ w, Calls Tryd.prog 31 #[.int .i64 si, .agg #[.int .u64 ((limb 0 (fi) : Nat) : Int), .int .u64 ((limb 1 (fi) : Nat) : Int), .int .u64 ((limb 2 (fi) : Nat) : Int), .int .u64 ((limb 3 (fi) : Nat) : Int)], .agg #[.int .u64 ((limb 0 (sb j) : Nat) : Int), .int .u64 ((limb 1 (sb j) : Nat) : Int), .int .u64 ((limb 2 (sb j) : Nat) : Int), .int .u64 ((limb 3 (sb j) : Nat) : Int)]] w fun e w' => e = .returned (.agg #[.int .u64 ((limb 0 (jp (j + 1)) : Nat) : Int), .int .u64 ((limb 1 (jp (j + 1)) : Nat) : Int), .int .u64 ((limb 2 (jp (j + 1)) : Nat) : Int), .int .u64 ((limb 3 (jp (j + 1)) : Nat) : Int)]) ∧ Below w.heap.size w w')
    (he1 : ∀ w, Calls Tryd.prog 31 #[.int .i64 si, .agg #[.int .u64 ((limb 0 (en) : Nat) : Int), .int .u64 ((limb 1 (en) : Nat) : Int), .int .u64 ((limb 2 (en) : Nat) : Int), .int .u64 ((limb 3 (en) : Nat) : Int)], .agg #[.int .u64 ((limb 0 (en) : Nat) : Int), .int .u64 ((limb 1 (en) : Nat) : Int), .int .u64 ((limb 2 (en) : Nat) : Int), .int .u64 ((limb 3 (en) : Nat) : Int)]] w fun e w' => e = .returned (.agg #[.int .u64 ((limb 0 (q1) : Nat) : Int), .int .u64 ((limb 1 (q1) : Nat) : Int), .int .u64 ((limb 2 (q1) : Nat) : Int), .int .u64 ((limb 3 (q1) : Nat) : Int)]) ∧ Below w.heap.size w w')
    (he2 : ∀ w, Calls Tryd.prog 32 #[.int .i64 si, .agg #[.int .u64 ((limb 0 (q1) : Nat) : Int), .int .u64 ((limb 1 (q1) : Nat) : Int), .int .u64 ((limb 2 (q1) : Nat) : Int), .int .u64 ((limb 3 (q1) : Nat) : Int)], .agg #[.int .u64 ((limb 0 (en) : Nat) : Int), .int .u64 ((limb 1 (en) : Nat) : Int), .int .u64 ((limb 2 (en) : Nat) : Int), .int .u64 ((limb 3 (en) : Nat) : Int)]] w fun e w' => e = .returned (.agg #[.int .u64 ((limb 0 (q2) : Nat) : Int), .int .u64 ((limb 1 (q2) : Nat) : Int), .int .u64 ((limb 2 (q2) : Nat) : Int), .int .u64 ((limb 3 (q2) : Nat) : Int)]) ∧ Below w.heap.size w w')
    (he3 : ∀ w, Calls Tryd.prog 31 #[.int .i64 si, .agg #[.int .u64 ((limb 0 (la) : Nat) : Int), .int .u64 ((limb 1 (la) : Nat) : Int), .int .u64 ((limb 2 (la) : Nat) : Int), .int .u64 ((limb 3 (la) : Nat) : Int)], .agg #[.int .u64 ((limb 0 (q2) : Nat) : Int), .int .u64 ((limb 1 (q2) : Nat) : Int), .int .u64 ((limb 2 (q2) : Nat) : Int), .int .u64 ((limb 3 (q2) : Nat) : Int)]] w fun e w' => e = .returned (.agg #[.int .u64 ((limb 0 (q3) : Nat) : Int), .int .u64 ((limb 1 (q3) : Nat) : Int), .int .u64 ((limb 2 (q3) : Nat) : Int), .int .u64 ((limb 3 (q3) : Nat) : Int)]) ∧ Below w.heap.size w w')
    (hed : ∀ j, j < m → ∀ w, Calls Tryd.prog 33 #[.int .i64 (j : Int), .int .i64 (n : Int)] w fun e w' => e = .returned (.int .i64 ((eF j : Nat) : Int)) ∧ w' = w)
    (htn : ∀ i, i < n → ∀ w, Calls Tryd.prog 34 #[.int .i64 si, .agg #[.int .u64 ((limb 0 (A i) : Nat) : Int), .int .u64 ((limb 1 (A i) : Nat) : Int), .int .u64 ((limb 2 (A i) : Nat) : Int), .int .u64 ((limb 3 (A i) : Nat) : Int)], .agg #[.int .u64 ((limb 0 (be) : Nat) : Int), .int .u64 ((limb 1 (be) : Nat) : Int), .int .u64 ((limb 2 (be) : Nat) : Int), .int .u64 ((limb 3 (be) : Nat) : Int)], .agg #[.int .u64 ((limb 0 (D i) : Nat) : Int), .int .u64 ((limb 1 (D i) : Nat) : Int), .int .u64 ((limb 2 (D i) : Nat) : Int), .int .u64 ((limb 3 (D i) : Nat) : Int)], .agg #[.int .u64 ((limb 0 (ga) : Nat) : Int), .int .u64 ((limb 1 (ga) : Nat) : Int), .int .u64 ((limb 2 (ga) : Nat) : Int), .int .u64 ((limb 3 (ga) : Nat) : Int)]] w fun e w' => e = .returned (.agg #[.int .u64 ((limb 0 (tn i) : Nat) : Int), .int .u64 ((limb 1 (tn i) : Nat) : Int), .int .u64 ((limb 2 (tn i) : Nat) : Int), .int .u64 ((limb 3 (tn i) : Nat) : Int)]) ∧ Below w.heap.size w w')
    (hsh : ∀ i : Nat, i < n → ∀ w, Calls Tryd.prog 35 #[.int .i64 si, .int .i64 (i : Int)] w fun e w' => e = .returned (.agg #[.int .u64 ((limb 0 (sh i) : Nat) : Int), .int .u64 ((limb 1 (sh i) : Nat) : Int), .int .u64 ((limb 2 (sh i) : Nat) : Int), .int .u64 ((limb 3 (sh i) : Nat) : Int)]) ∧ Below w.heap.size w w')
    (hmo : ∀ i, i < n → ∀ w, Calls Tryd.prog 31 #[.int .i64 si, .agg #[.int .u64 ((limb 0 (sh i) : Nat) : Int), .int .u64 ((limb 1 (sh i) : Nat) : Int), .int .u64 ((limb 2 (sh i) : Nat) : Int), .int .u64 ((limb 3 (sh i) : Nat) : Int)], .agg #[.int .u64 ((limb 0 (x) : Nat) : Int), .int .u64 ((limb 1 (x) : Nat) : Int), .int .u64 ((limb 2 (x) : Nat) : Int), .int .u64 ((limb 3 (x) : Nat) : Int)]] w fun e w' => e = .returned (.agg #[.int .u64 ((limb 0 (o i) : Nat) : Int), .int .u64 ((limb 1 (o i) : Nat) : Int), .int .u64 ((limb 2 (o i) : Nat) : Int), .int .u64 ((limb 3 (o i) : Nat) : Int)]) ∧ Below w.heap.size w w')
    (hto : ∀ i, i < n → ∀ w, Calls Tryd.prog 34 #[.int .i64 si, .agg #[.int .u64 ((limb 0 (A i) : Nat) : Int), .int .u64 ((limb 1 (A i) : Nat) : Int), .int .u64 ((limb 2 (A i) : Nat) : Int), .int .u64 ((limb 3 (A i) : Nat) : Int)], .agg #[.int .u64 ((limb 0 (be) : Nat) : Int), .int .u64 ((limb 1 (be) : Nat) : Int), .int .u64 ((limb 2 (be) : Nat) : Int), .int .u64 ((limb 3 (be) : Nat) : Int)], .agg #[.int .u64 ((limb 0 (o i) : Nat) : Int), .int .u64 ((limb 1 (o i) : Nat) : Int), .int .u64 ((limb 2 (o i) : Nat) : Int), .int .u64 ((limb 3 (o i) : Nat) : Int)], .agg #[.int .u64 ((limb 0 (ga) : Nat) : Int), .int .u64 ((limb 1 (ga) : Nat) : Int), .int .u64 ((limb 2 (ga) : Nat) : Int), .int .u64 ((limb 3 (ga) : Nat) : Int)]] w fun e w' => e = .returned (.agg #[.int .u64 ((limb 0 (tO i) : Nat) : Int), .int .u64 ((limb 1 (tO i) : Nat) : Int), .int .u64 ((limb 2 (tO i) : Nat) : Int), .int .u64 ((limb 3 (tO i) : Nat) : Int)]) ∧ Below w.heap.size w w')
    (hpn : ∀ j i, j < m → 2 * j ≤ i → i < eF j → ∀ w, Calls Tryd.prog 31 #[.int .i64 si, .agg #[.int .u64 ((limb 0 (pN j i) : Nat) : Int), .int .u64 ((limb 1 (pN j i) : Nat) : Int), .int .u64 ((limb 2 (pN j i) : Nat) : Int), .int .u64 ((limb 3 (pN j i) : Nat) : Int)], .agg #[.int .u64 ((limb 0 (tn i) : Nat) : Int), .int .u64 ((limb 1 (tn i) : Nat) : Int), .int .u64 ((limb 2 (tn i) : Nat) : Int), .int .u64 ((limb 3 (tn i) : Nat) : Int)]] w fun e w' => e = .returned (.agg #[.int .u64 ((limb 0 (pN j (i + 1)) : Nat) : Int), .int .u64 ((limb 1 (pN j (i + 1)) : Nat) : Int), .int .u64 ((limb 2 (pN j (i + 1)) : Nat) : Int), .int .u64 ((limb 3 (pN j (i + 1)) : Nat) : Int)]) ∧ Below w.heap.size w w')
    (hpo : ∀ j i, j < m → 2 * j ≤ i → i < eF j → ∀ w, Calls Tryd.prog 31 #[.int .i64 si, .agg #[.int .u64 ((limb 0 (pO j i) : Nat) : Int), .int .u64 ((limb 1 (pO j i) : Nat) : Int), .int .u64 ((limb 2 (pO j i) : Nat) : Int), .int .u64 ((limb 3 (pO j i) : Nat) : Int)], .agg #[.int .u64 ((limb 0 (tO i) : Nat) : Int), .int .u64 ((limb 1 (tO i) : Nat) : Int), .int .u64 ((limb 2 (tO i) : Nat) : Int), .int .u64 ((limb 3 (tO i) : Nat) : Int)]] w fun e w' => e = .returned (.agg #[.int .u64 ((limb 0 (pO j (i + 1)) : Nat) : Int), .int .u64 ((limb 1 (pO j (i + 1)) : Nat) : Int), .int .u64 ((limb 2 (pO j (i + 1)) : Nat) : Int), .int .u64 ((limb 3 (pO j (i + 1)) : Nat) : Int)]) ∧ Below w.heap.size w w')
    (hsf : ∀ j, j < m → ∀ w, Calls Tryd.prog 32 #[.int .i64 si, .agg #[.int .u64 ((limb 0 (pN j (eF j)) : Nat) : Int), .int .u64 ((limb 1 (pN j (eF j)) : Nat) : Int), .int .u64 ((limb 2 (pN j (eF j)) : Nat) : Int), .int .u64 ((limb 3 (pN j (eF j)) : Nat) : Int)], .agg #[.int .u64 ((limb 0 (pO j (eF j)) : Nat) : Int), .int .u64 ((limb 1 (pO j (eF j)) : Nat) : Int), .int .u64 ((limb 2 (pO j (eF j)) : Nat) : Int), .int .u64 ((limb 3 (pO j (eF j)) : Nat) : Int)]] w fun e w' => e = .returned (.agg #[.int .u64 ((limb 0 (df j) : Nat) : Int), .int .u64 ((limb 1 (df j) : Nat) : Int), .int .u64 ((limb 2 (df j) : Nat) : Int), .int .u64 ((limb 3 (df j) : Nat) : Int)]) ∧ Below w.heap.size w w')
    (hst : ∀ j, j < m → ∀ w, Calls Tryd.prog 31 #[.int .i64 si, .agg #[.int .u64 ((limb 0 (us) : Nat) : Int), .int .u64 ((limb 1 (us) : Nat) : Int), .int .u64 ((limb 2 (us) : Nat) : Int), .int .u64 ((limb 3 (us) : Nat) : Int)], .agg #[.int .u64 ((limb 0 (df j) : Nat) : Int), .int .u64 ((limb 1 (df j) : Nat) : Int), .int .u64 ((limb 2 (df j) : Nat) : Int), .int .u64 ((limb 3 (df j) : Nat) : Int)]] w fun e w' => e = .returned (.agg #[.int .u64 ((limb 0 (st j) : Nat) : Int), .int .u64 ((limb 1 (st j) : Nat) : Int), .int .u64 ((limb 2 (st j) : Nat) : Int), .int .u64 ((limb 3 (st j) : Nat) : Int)]) ∧ Below w.heap.size w w') :
    Calls Tryd.prog 12 #[.int .i64 si, .agg sp, .slice (some ⟨ab, ao, none⟩) n ca, .slice (some ⟨bb, bo, none⟩) n cb, .slice (some ⟨zb, zo, none⟩) m cz, .agg #[.int .u64 ((limb 0 (be) : Nat) : Int), .int .u64 ((limb 1 (be) : Nat) : Int), .int .u64 ((limb 2 (be) : Nat) : Int), .int .u64 ((limb 3 (be) : Nat) : Int)], .agg #[.int .u64 ((limb 0 (ga) : Nat) : Int), .int .u64 ((limb 1 (ga) : Nat) : Int), .int .u64 ((limb 2 (ga) : Nat) : Int), .int .u64 ((limb 3 (ga) : Nat) : Int)]] w fun e w' => (∃ v, e = .returned v ∧ OwnL w' w.heap.size v (zL jp (m - 1) ++ [q3] ++ (List.range m).map st)) ∧ Below w.heap.size w w' := by
  obtain ⟨i0, hi, hz0, hz1, hz2⟩ := elemInfo
  have HI := (show Hid _ from hi); have HZ := (show Hid _ from And.intro hz0 (And.intro hz1 hz2)); clear hi hz0 hz1 hz2
  have Xs1 : Hid (∀ w, Calls Tryd.prog 32 #[.int .i64 si, .agg #[.int .u64 ((limb 0 (1) : Nat) : Int), .int .u64 ((limb 1 (1) : Nat) : Int), .int .u64 ((limb 2 (1) : Nat) : Int), .int .u64 ((limb 3 (1) : Nat) : Int)], .agg #[.int .u64 ((limb 0 (p0) : Nat) : Int), .int .u64 ((limb 1 (p0) : Nat) : Int), .int .u64 ((limb 2 (p0) : Nat) : Int), .int .u64 ((limb 3 (p0) : Nat) : Int)]] w fun e w' => e = .returned (.agg #[.int .u64 ((limb 0 (s1) : Nat) : Int), .int .u64 ((limb 1 (s1) : Nat) : Int), .int .u64 ((limb 2 (s1) : Nat) : Int), .int .u64 ((limb 3 (s1) : Nat) : Int)]) ∧ Below w.heap.size w w') := hs1
  have Xj0 : Hid (∀ w, Calls Tryd.prog 31 #[.int .i64 si, .agg #[.int .u64 ((limb 0 (fi) : Nat) : Int), .int .u64 ((limb 1 (fi) : Nat) : Int), .int .u64 ((limb 2 (fi) : Nat) : Int), .int .u64 ((limb 3 (fi) : Nat) : Int)], .agg #[.int .u64 ((limb 0 (s1) : Nat) : Int), .int .u64 ((limb 1 (s1) : Nat) : Int), .int .u64 ((limb 2 (s1) : Nat) : Int), .int .u64 ((limb 3 (s1) : Nat) : Int)]] w fun e w' => e = .returned (.agg #[.int .u64 ((limb 0 (jp 0) : Nat) : Int), .int .u64 ((limb 1 (jp 0) : Nat) : Int), .int .u64 ((limb 2 (jp 0) : Nat) : Int), .int .u64 ((limb 3 (jp 0) : Nat) : Int)]) ∧ Below w.heap.size w w') := hj0
  have Xjs : Hid (∀ i j, i = j + 1 → i < m → ∀ w, Calls Tryd.prog 32 #[.int .i64 si, .agg #[.int .u64 ((limb 0 (At i) : Nat) : Int), .int .u64 ((limb 1 (At i) : Nat) : Int), .int .u64 ((limb 2 (At i) : Nat) : Int), .int .u64 ((limb 3 (At i) : Nat) : Int)], .agg #[.int .u64 ((limb 0 (La j) : Nat) : Int), .int .u64 ((limb 1 (La j) : Nat) : Int), .int .u64 ((limb 2 (La j) : Nat) : Int), .int .u64 ((limb 3 (La j) : Nat) : Int)]] w fun e w' => e = .returned (.agg #[.int .u64 ((limb 0 (sb j) : Nat) : Int), .int .u64 ((limb 1 (sb j) : Nat) : Int), .int .u64 ((limb 2 (sb j) : Nat) : Int), .int .u64 ((limb 3 (sb j) : Nat) : Int)]) ∧ Below w.heap.size w w') := hjs
  have Xjm : Hid (∀ j, j + 1 < m → ∀ w, Calls Tryd.prog 31 #[.int .i64 si, .agg #[.int .u64 ((limb 0 (fi) : Nat) : Int), .int .u64 ((limb 1 (fi) : Nat) : Int), .int .u64 ((limb 2 (fi) : Nat) : Int), .int .u64 ((limb 3 (fi) : Nat) : Int)], .agg #[.int .u64 ((limb 0 (sb j) : Nat) : Int), .int .u64 ((limb 1 (sb j) : Nat) : Int), .int .u64 ((limb 2 (sb j) : Nat) : Int), .int .u64 ((limb 3 (sb j) : Nat) : Int)]] w fun e w' => e = .returned (.agg #[.int .u64 ((limb 0 (jp (j + 1)) : Nat) : Int), .int .u64 ((limb 1 (jp (j + 1)) : Nat) : Int), .int .u64 ((limb 2 (jp (j + 1)) : Nat) : Int), .int .u64 ((limb 3 (jp (j + 1)) : Nat) : Int)]) ∧ Below w.heap.size w w') := hjm
  have Xe1 : Hid (∀ w, Calls Tryd.prog 31 #[.int .i64 si, .agg #[.int .u64 ((limb 0 (en) : Nat) : Int), .int .u64 ((limb 1 (en) : Nat) : Int), .int .u64 ((limb 2 (en) : Nat) : Int), .int .u64 ((limb 3 (en) : Nat) : Int)], .agg #[.int .u64 ((limb 0 (en) : Nat) : Int), .int .u64 ((limb 1 (en) : Nat) : Int), .int .u64 ((limb 2 (en) : Nat) : Int), .int .u64 ((limb 3 (en) : Nat) : Int)]] w fun e w' => e = .returned (.agg #[.int .u64 ((limb 0 (q1) : Nat) : Int), .int .u64 ((limb 1 (q1) : Nat) : Int), .int .u64 ((limb 2 (q1) : Nat) : Int), .int .u64 ((limb 3 (q1) : Nat) : Int)]) ∧ Below w.heap.size w w') := he1
  have Xe2 : Hid (∀ w, Calls Tryd.prog 32 #[.int .i64 si, .agg #[.int .u64 ((limb 0 (q1) : Nat) : Int), .int .u64 ((limb 1 (q1) : Nat) : Int), .int .u64 ((limb 2 (q1) : Nat) : Int), .int .u64 ((limb 3 (q1) : Nat) : Int)], .agg #[.int .u64 ((limb 0 (en) : Nat) : Int), .int .u64 ((limb 1 (en) : Nat) : Int), .int .u64 ((limb 2 (en) : Nat) : Int), .int .u64 ((limb 3 (en) : Nat) : Int)]] w fun e w' => e = .returned (.agg #[.int .u64 ((limb 0 (q2) : Nat) : Int), .int .u64 ((limb 1 (q2) : Nat) : Int), .int .u64 ((limb 2 (q2) : Nat) : Int), .int .u64 ((limb 3 (q2) : Nat) : Int)]) ∧ Below w.heap.size w w') := he2
  have Xe3 : Hid (∀ w, Calls Tryd.prog 31 #[.int .i64 si, .agg #[.int .u64 ((limb 0 (la) : Nat) : Int), .int .u64 ((limb 1 (la) : Nat) : Int), .int .u64 ((limb 2 (la) : Nat) : Int), .int .u64 ((limb 3 (la) : Nat) : Int)], .agg #[.int .u64 ((limb 0 (q2) : Nat) : Int), .int .u64 ((limb 1 (q2) : Nat) : Int), .int .u64 ((limb 2 (q2) : Nat) : Int), .int .u64 ((limb 3 (q2) : Nat) : Int)]] w fun e w' => e = .returned (.agg #[.int .u64 ((limb 0 (q3) : Nat) : Int), .int .u64 ((limb 1 (q3) : Nat) : Int), .int .u64 ((limb 2 (q3) : Nat) : Int), .int .u64 ((limb 3 (q3) : Nat) : Int)]) ∧ Below w.heap.size w w') := he3
  have Xed : Hid (∀ j, j < m → ∀ w, Calls Tryd.prog 33 #[.int .i64 (j : Int), .int .i64 (n : Int)] w fun e w' => e = .returned (.int .i64 ((eF j : Nat) : Int)) ∧ w' = w) := hed
  have Xtn : Hid (∀ i, i < n → ∀ w, Calls Tryd.prog 34 #[.int .i64 si, .agg #[.int .u64 ((limb 0 (A i) : Nat) : Int), .int .u64 ((limb 1 (A i) : Nat) : Int), .int .u64 ((limb 2 (A i) : Nat) : Int), .int .u64 ((limb 3 (A i) : Nat) : Int)], .agg #[.int .u64 ((limb 0 (be) : Nat) : Int), .int .u64 ((limb 1 (be) : Nat) : Int), .int .u64 ((limb 2 (be) : Nat) : Int), .int .u64 ((limb 3 (be) : Nat) : Int)], .agg #[.int .u64 ((limb 0 (D i) : Nat) : Int), .int .u64 ((limb 1 (D i) : Nat) : Int), .int .u64 ((limb 2 (D i) : Nat) : Int), .int .u64 ((limb 3 (D i) : Nat) : Int)], .agg #[.int .u64 ((limb 0 (ga) : Nat) : Int), .int .u64 ((limb 1 (ga) : Nat) : Int), .int .u64 ((limb 2 (ga) : Nat) : Int), .int .u64 ((limb 3 (ga) : Nat) : Int)]] w fun e w' => e = .returned (.agg #[.int .u64 ((limb 0 (tn i) : Nat) : Int), .int .u64 ((limb 1 (tn i) : Nat) : Int), .int .u64 ((limb 2 (tn i) : Nat) : Int), .int .u64 ((limb 3 (tn i) : Nat) : Int)]) ∧ Below w.heap.size w w') := htn
  have Xsh : Hid (∀ i : Nat, i < n → ∀ w, Calls Tryd.prog 35 #[.int .i64 si, .int .i64 (i : Int)] w fun e w' => e = .returned (.agg #[.int .u64 ((limb 0 (sh i) : Nat) : Int), .int .u64 ((limb 1 (sh i) : Nat) : Int), .int .u64 ((limb 2 (sh i) : Nat) : Int), .int .u64 ((limb 3 (sh i) : Nat) : Int)]) ∧ Below w.heap.size w w') := hsh
  have Xmo : Hid (∀ i, i < n → ∀ w, Calls Tryd.prog 31 #[.int .i64 si, .agg #[.int .u64 ((limb 0 (sh i) : Nat) : Int), .int .u64 ((limb 1 (sh i) : Nat) : Int), .int .u64 ((limb 2 (sh i) : Nat) : Int), .int .u64 ((limb 3 (sh i) : Nat) : Int)], .agg #[.int .u64 ((limb 0 (x) : Nat) : Int), .int .u64 ((limb 1 (x) : Nat) : Int), .int .u64 ((limb 2 (x) : Nat) : Int), .int .u64 ((limb 3 (x) : Nat) : Int)]] w fun e w' => e = .returned (.agg #[.int .u64 ((limb 0 (o i) : Nat) : Int), .int .u64 ((limb 1 (o i) : Nat) : Int), .int .u64 ((limb 2 (o i) : Nat) : Int), .int .u64 ((limb 3 (o i) : Nat) : Int)]) ∧ Below w.heap.size w w') := hmo
  have Xto : Hid (∀ i, i < n → ∀ w, Calls Tryd.prog 34 #[.int .i64 si, .agg #[.int .u64 ((limb 0 (A i) : Nat) : Int), .int .u64 ((limb 1 (A i) : Nat) : Int), .int .u64 ((limb 2 (A i) : Nat) : Int), .int .u64 ((limb 3 (A i) : Nat) : Int)], .agg #[.int .u64 ((limb 0 (be) : Nat) : Int), .int .u64 ((limb 1 (be) : Nat) : Int), .int .u64 ((limb 2 (be) : Nat) : Int), .int .u64 ((limb 3 (be) : Nat) : Int)], .agg #[.int .u64 ((limb 0 (o i) : Nat) : Int), .int .u64 ((limb 1 (o i) : Nat) : Int), .int .u64 ((limb 2 (o i) : Nat) : Int), .int .u64 ((limb 3 (o i) : Nat) : Int)], .agg #[.int .u64 ((limb 0 (ga) : Nat) : Int), .int .u64 ((limb 1 (ga) : Nat) : Int), .int .u64 ((limb 2 (ga) : Nat) : Int), .int .u64 ((limb 3 (ga) : Nat) : Int)]] w fun e w' => e = .returned (.agg #[.int .u64 ((limb 0 (tO i) : Nat) : Int), .int .u64 ((limb 1 (tO i) : Nat) : Int), .int .u64 ((limb 2 (tO i) : Nat) : Int), .int .u64 ((limb 3 (tO i) : Nat) : Int)]) ∧ Below w.heap.size w w') := hto
  have Xpn : Hid (∀ j i, j < m → 2 * j ≤ i → i < eF j → ∀ w, Calls Tryd.prog 31 #[.int .i64 si, .agg #[.int .u64 ((limb 0 (pN j i) : Nat) : Int), .int .u64 ((limb 1 (pN j i) : Nat) : Int), .int .u64 ((limb 2 (pN j i) : Nat) : Int), .int .u64 ((limb 3 (pN j i) : Nat) : Int)], .agg #[.int .u64 ((limb 0 (tn i) : Nat) : Int), .int .u64 ((limb 1 (tn i) : Nat) : Int), .int .u64 ((limb 2 (tn i) : Nat) : Int), .int .u64 ((limb 3 (tn i) : Nat) : Int)]] w fun e w' => e = .returned (.agg #[.int .u64 ((limb 0 (pN j (i + 1)) : Nat) : Int), .int .u64 ((limb 1 (pN j (i + 1)) : Nat) : Int), .int .u64 ((limb 2 (pN j (i + 1)) : Nat) : Int), .int .u64 ((limb 3 (pN j (i + 1)) : Nat) : Int)]) ∧ Below w.heap.size w w') := hpn
  have Xpo : Hid (∀ j i, j < m → 2 * j ≤ i → i < eF j → ∀ w, Calls Tryd.prog 31 #[.int .i64 si, .agg #[.int .u64 ((limb 0 (pO j i) : Nat) : Int), .int .u64 ((limb 1 (pO j i) : Nat) : Int), .int .u64 ((limb 2 (pO j i) : Nat) : Int), .int .u64 ((limb 3 (pO j i) : Nat) : Int)], .agg #[.int .u64 ((limb 0 (tO i) : Nat) : Int), .int .u64 ((limb 1 (tO i) : Nat) : Int), .int .u64 ((limb 2 (tO i) : Nat) : Int), .int .u64 ((limb 3 (tO i) : Nat) : Int)]] w fun e w' => e = .returned (.agg #[.int .u64 ((limb 0 (pO j (i + 1)) : Nat) : Int), .int .u64 ((limb 1 (pO j (i + 1)) : Nat) : Int), .int .u64 ((limb 2 (pO j (i + 1)) : Nat) : Int), .int .u64 ((limb 3 (pO j (i + 1)) : Nat) : Int)]) ∧ Below w.heap.size w w') := hpo
  have Xsf : Hid (∀ j, j < m → ∀ w, Calls Tryd.prog 32 #[.int .i64 si, .agg #[.int .u64 ((limb 0 (pN j (eF j)) : Nat) : Int), .int .u64 ((limb 1 (pN j (eF j)) : Nat) : Int), .int .u64 ((limb 2 (pN j (eF j)) : Nat) : Int), .int .u64 ((limb 3 (pN j (eF j)) : Nat) : Int)], .agg #[.int .u64 ((limb 0 (pO j (eF j)) : Nat) : Int), .int .u64 ((limb 1 (pO j (eF j)) : Nat) : Int), .int .u64 ((limb 2 (pO j (eF j)) : Nat) : Int), .int .u64 ((limb 3 (pO j (eF j)) : Nat) : Int)]] w fun e w' => e = .returned (.agg #[.int .u64 ((limb 0 (df j) : Nat) : Int), .int .u64 ((limb 1 (df j) : Nat) : Int), .int .u64 ((limb 2 (df j) : Nat) : Int), .int .u64 ((limb 3 (df j) : Nat) : Int)]) ∧ Below w.heap.size w w') := hsf
  have Xst : Hid (∀ j, j < m → ∀ w, Calls Tryd.prog 31 #[.int .i64 si, .agg #[.int .u64 ((limb 0 (us) : Nat) : Int), .int .u64 ((limb 1 (us) : Nat) : Int), .int .u64 ((limb 2 (us) : Nat) : Int), .int .u64 ((limb 3 (us) : Nat) : Int)], .agg #[.int .u64 ((limb 0 (df j) : Nat) : Int), .int .u64 ((limb 1 (df j) : Nat) : Int), .int .u64 ((limb 2 (df j) : Nat) : Int), .int .u64 ((limb 3 (df j) : Nat) : Int)]] w fun e w' => e = .returned (.agg #[.int .u64 ((limb 0 (st j) : Nat) : Int), .int .u64 ((limb 1 (st j) : Nat) : Int), .int .u64 ((limb 2 (st j) : Nat) : Int), .int .u64 ((limb 3 (st j) : Nat) : Int)]) ∧ Below w.heap.size w w') := hst
  have XCK : Hid (∀ w, _) := fun w => rchunks_any n hn.2 w
  rw [← hm] at XCK
  have XC : Hid (CelS w zb zo m At Nx La) := hc
  have XA : Hid (ab < w.heap.size ∧ ∀ i, i < n → ∀ j, j < 4 → w.cell? ⟨ab, ao + i * 4 + j, none⟩ = some (.int .u64 ((limb j (A i) : Nat) : Int))) := ⟨lA, hA⟩
  have XB : Hid (bb < w.heap.size ∧ ∀ i, i < n → ∀ j, j < 4 → w.cell? ⟨bb, bo + i * 4 + j, none⟩ = some (.int .u64 ((limb j (D i) : Nat) : Int))) := ⟨lB, hB⟩
  have XS : Hid (SpV sp x fi la us) := hS
  have XM : Hid (0 < m ∧ m ≤ 1000 ∧ n ≤ 1000 ∧ (∀ j, j < m → 2 * j ≤ eF j ∧ eF j ≤ n) ∧ (∀ j, pN j (2 * j) = Nx j) ∧ (∀ j, pO j (2 * j) = At j) ∧ p0 = At 0 ∧ en = At (m - 1)) := ⟨by omega, by omega, hn.2, heF, hN0, hO0, hp0, hen⟩
  have hn0 : ¬ (n : Int) = 0 := by omega
  have hn0' : ¬ n = 0 := by omega
  have hm0 : ¬ m = 0 := by omega
  have h0m : (0 : Int) < (m : Int) := by omega
  clear hs1 hj0 hjs hjm he1 he2 he3 hed htn hsh hmo hto hpn hpo hsf hst hc lA hA lB hB hS hm hn heF hN0 hO0 hp0 hen
  go_enter Tryd.func12, Tryd.ntmps12
  go_upto_region 2 with fail
  have hs1 : (w.alloc (.cells sp 27)).heap.size = w.heap.size + 1 := Array.size_push ..
  have hs2 : ((w.alloc (.cells sp 27)).alloc (.cells #[.int .u64 ((limb 0 (be) : Nat) : Int), .int .u64 ((limb 1 (be) : Nat) : Int), .int .u64 ((limb 2 (be) : Nat) : Int), .int .u64 ((limb 3 (be) : Nat) : Int)] 24)).heap.size = w.heap.size + 1 + 1 := by rw [← hs1]; exact Array.size_push ..
  obtain ⟨N8, e0⟩ : ∃ z, z = w.heap.size := ⟨_, rfl⟩
  obtain ⟨N12, e1⟩ : ∃ z, z = N8 + 1 := ⟨_, rfl⟩
  obtain ⟨N13, e2⟩ : ∃ z, z = N12 + 1 := ⟨_, rfl⟩
  obtain ⟨w0, hw1⟩ : ∃ z : World, z = ((w.alloc (.cells sp 27)).alloc (.cells #[.int .u64 ((limb 0 (be) : Nat) : Int), .int .u64 ((limb 1 (be) : Nat) : Int), .int .u64 ((limb 2 (be) : Nat) : Int), .int .u64 ((limb 3 (be) : Nat) : Int)] 24)).alloc (.cells #[.int .u64 ((limb 0 (ga) : Nat) : Int), .int .u64 ((limb 1 (ga) : Nat) : Int), .int .u64 ((limb 2 (ga) : Nat) : Int), .int .u64 ((limb 3 (ga) : Nat) : Int)] 24) := ⟨_, rfl⟩
  have b8 : Lay w0 27 N8 sp := by rw [hw1]; exact ((Lay.newAt _ _ _ e0).alloc _).alloc _
  have b12 : Blk w0 24 N12 (fun i => limb i be) := by rw [hw1]; exact (Blk.newAt _ _ _ (fun i => limb i be) (by rw [e1, e0, hs1])).alloc _
  have b13 : Blk w0 24 N13 (fun i => limb i ga) := by rw [hw1]; exact Blk.newAt _ _ _ (fun i => limb i ga) (by rw [e2, e1, e0, hs2])
  have hb0 : Below w.heap.size w w0 := by rw [hw1]; exact bAlloc (bAlloc (bAlloc (Below.refl _ _) _) _) _
  have HSZ0 : w0.heap.size = N13 + 1 := by rw [hw1, e2, e1, e0, ← hs2]; exact Array.size_push ..
  rw [← hw1]
  try rw [← e0]
  try rw [← e1]
  try rw [← e2]
  have l8 : w.heap.size ≤ N8 := by omega
  have l12 : w.heap.size ≤ N12 := by omega
  have l13 : w.heap.size ≤ N13 := by omega
  have n8_12 : N8 ≠ N12 := by omega
  have n8_13 : N8 ≠ N13 := by omega
  have n12_13 : N12 ≠ N13 := by omega
  clear hw1 e0 e1 e2 hs1 hs2
  obtain ⟨BZ, eBZ⟩ : ∃ z, z = N13 + 1 := ⟨_, rfl⟩
  have hsz : w0.heap.size = BZ := by rw [eBZ]; have := b13; have h : w0.heap.size = N13 + 1 := HSZ0; exact h
  obtain ⟨w1, hw1⟩ : ∃ z : World, z = w0.alloc (.cells #[] 24) := ⟨_, rfl⟩
  have own1 : OwnL w1 BZ (.slice (some ⟨BZ, 0, none⟩) 0 0) [] := by
    have h := OwnL.none w0 w0.heap.size (Nat.le_refl _)
    rw [hsz] at h
    rw [hw1]; exact h
  have hb1 : Below BZ w0 w1 := by rw [hw1, ← hsz]; exact bAlloc (Below.refl _ _) _
  have lB1' : w1.heap.size = BZ + 1 := by rw [hw1, ← hsz]; exact Array.size_push ..
  have lB1 : BZ ≤ w1.heap.size := by omega
  have lw0 : w.heap.size ≤ BZ := by rw [← hsz]; exact hb0.size
  have x8 := b8.lt; have x12 := b12.lt; have x13 := b13.lt
  rw [hsz] at x8 x12 x13
  rw [← hw1]
  try rw [← eBZ]
  clear hw1 eBZ hsz HSZ0
  go_wp2_with fail
  refine (XCK.out w1).mono ?_
  rintro e w2 ⟨rfl, e2⟩
  have own2 := own1; have hb2 := hb1; have lB2 := lB1; have lB2' := lB1'
  rw [← e2] at own2 hb2 lB2 lB2'
  clear own1 hb1 lB1 lB1' e2
  go_upto_region 5 with fail
  obtain ⟨wa, hwa⟩ : ∃ z : World, z = w2.alloc (.cells #[.int .u64 1, .int .u64 0, .int .u64 0, .int .u64 0] 24) := ⟨_, rfl⟩
  obtain ⟨N16, e16⟩ : ∃ z, z = w2.heap.size := ⟨_, rfl⟩
  have b16 : Blk wa 24 N16 (fun i => limb i 1) := by
    have h := Blk.newAt w2 24 N16 (fun i => limb i 1) e16
    rw [show (#[.int .u64 ((limb 0 (1) : Nat) : Int), .int .u64 ((limb 1 (1) : Nat) : Int), .int .u64 ((limb 2 (1) : Nat) : Int), .int .u64 ((limb 3 (1) : Nat) : Int)] : Array Value) = #[.int .u64 1, .int .u64 0, .int .u64 0, .int .u64 0] from Value.agg.inj (word_agg 1 (by decide))] at h
    rw [hwa]; exact h
  have hbn : Below w2.heap.size w2 wa := by rw [hwa]; exact bAlloc (Below.refl _ _) _
  have own5 := own2.below hbn
  have hba : Below BZ w0 wa := hb2.trans (hbn.mono lB2)
  have lBa : BZ ≤ wa.heap.size := Nat.le_trans lB2 hbn.size
  have nBz : BZ ≠ N16 := by rw [e16]; omega
  have p8 := b8.below hba x8
  have K0 : Rd4 wa N8 4 fi := p8.el XS.out.2.2.1
  have K1 : Rd4 wa N16 0 1 := by have c := b16.cell; exact ⟨c 0 (by decide), c 1 (by decide), c 2 (by decide), c 3 (by decide)⟩
  have hbw0 : Below w.heap.size w wa := hb0.trans (hba.mono lw0)
  have hcl := XC.out.below hbw0 XC.out.1
  have lzb : zb < BZ := Nat.lt_of_lt_of_le XC.out.1 lw0
  have K2 : Rd4 wa zb zo p0 := by
    rw [XM.out.2.2.2.2.2.2.1]
    have c1 := hcl.2 0 XM.out.1
    have q0 := c1.1 0 (by decide); have q1 := c1.1 1 (by decide); have q2 := c1.1 2 (by decide); have q3 := c1.1 3 (by decide)
    simp only [Nat.zero_mul, Nat.add_zero] at q0 q1 q2 q3
    exact ⟨q0, q1, q2, q3⟩
  have kl0 : N8 < wa.heap.size := p8.lt
  have kl1 : N16 < wa.heap.size := b16.lt
  have kl2 : zb < wa.heap.size := hcl.1
  have ne0 : BZ ≠ N8 := by omega
  have ne2 : BZ ≠ zb := by omega
  obtain ⟨j0, ej0⟩ : ∃ z, z = jp 0 := ⟨_, rfl⟩
  rw [← ej0] at Xj0
  obtain ⟨L, eL⟩ : ∃ L : List Nat, L = [] := ⟨_, rfl⟩
  have HL : Hid (L.length = 0 ∧ zL jp 0 = L ++ [j0]) := by rw [eL, ej0]; exact ⟨rfl, rfl⟩
  rw [← eL] at own5
  have hL9 : L.length ≤ 1001 := by have := HL.out.1; omega
  have HXB : Hid (w2.heap.size = BZ + 1) := lB2'
  rw [← hwa]
  try rw [← lB2', ← e16]
  clear hwa e16 hbn hcl b16 eL hbw0 own2 lB2' ej0 
  go_upto_region 5 with fail
  refine wp_region_Z (fun w' => Rd4 w' N8 4 fi ∧ Rd4 w' N16 0 1 ∧ Rd4 w' zb (zo) p0) 99 (by kernel_rfl) ?_
  obtain ⟨wD, hD⟩ : ∃ z : World, z = wa.drew := ⟨_, rfl⟩
  rw [← hD]
  have lowD : Below wa.heap.size wa wD := by rw [hD]; exact (Below.refl _ _).drew
  clear hD
  have HS0 : Rd4 wD N8 4 fi ∧ Rd4 wD N16 0 1 ∧ Rd4 wD zb (zo) p0 := ⟨K0.below lowD kl0, K1.below lowD kl1, K2.below lowD kl2⟩
  refine wpZ_take (i := 0) (v := .slice (some ⟨BZ, 0, none⟩) 0 0) 52 rfl rfl (by kernel_rfl) (by kernel_rfl) (by kernel_rfl) (Or.inr (by decide)) (fun _ _ _ h => h) (Or.inl ⟨by rfl, fun w hSw => by go_simp⟩) HS0 ?_
  simp only [Act.put, List.setIfInBounds_toArray]
  try dsimp only [List.set_cons_zero, List.set_cons_succ]
  refine wpZ_take (i := 1) (v := .int .i64 si) 53 rfl rfl (by kernel_rfl) (by kernel_rfl) (by kernel_rfl) (Or.inr (by decide)) (fun _ _ _ h => h) (Or.inl ⟨by rfl, fun w hSw => by go_simp⟩) HS0 ?_
  simp only [Act.put, List.setIfInBounds_toArray]
  try dsimp only [List.set_cons_zero, List.set_cons_succ]
  refine wpZ_take (i := 2) (v := .pointer (some ⟨N8, 4, none⟩)) 54 rfl rfl (by kernel_rfl) (by kernel_rfl) (by kernel_rfl) (Or.inr (by decide)) (fun _ _ _ h => h) (Or.inl ⟨by rfl, fun w hSw => by go_simp⟩) HS0 ?_
  simp only [Act.put, List.setIfInBounds_toArray]
  try dsimp only [List.set_cons_zero, List.set_cons_succ]
  refine wpZ_take (i := 3) (v := .agg #[.int .u64 ((limb 0 (fi) : Nat) : Int), .int .u64 ((limb 1 (fi) : Nat) : Int), .int .u64 ((limb 2 (fi) : Nat) : Int), .int .u64 ((limb 3 (fi) : Nat) : Int)]) 55 rfl rfl (by kernel_rfl) (by kernel_rfl) (by kernel_rfl) (Or.inr (by decide)) (fun _ _ _ h => h) (Or.inl ⟨by rfl, fun w hSw => by (obtain ⟨q0, q1, q2, q3⟩ : w.cell? ⟨N8, 4, none⟩ = _ ∧ w.cell? ⟨N8, 5, none⟩ = _ ∧ w.cell? ⟨N8, 6, none⟩ = _ ∧ w.cell? ⟨N8, 7, none⟩ = _ := hSw.1; clear hSw; go_simp)⟩) HS0 ?_
  simp only [Act.put, List.setIfInBounds_toArray]
  try dsimp only [List.set_cons_zero, List.set_cons_succ]
  refine wpZ_take (i := 4) (v := .int .i64 si) 56 rfl rfl (by kernel_rfl) (by kernel_rfl) (by kernel_rfl) (Or.inr (by decide)) (fun _ _ _ h => h) (Or.inl ⟨by rfl, fun w hSw => by go_simp⟩) HS0 ?_
  simp only [Act.put, List.setIfInBounds_toArray]
  try dsimp only [List.set_cons_zero, List.set_cons_succ]
  refine wpZ_take (i := 5) (v := .agg #[.int .u64 ((limb 0 (1) : Nat) : Int), .int .u64 ((limb 1 (1) : Nat) : Int), .int .u64 ((limb 2 (1) : Nat) : Int), .int .u64 ((limb 3 (1) : Nat) : Int)]) 57 rfl rfl (by kernel_rfl) (by kernel_rfl) (by kernel_rfl) (Or.inr (by decide)) (fun _ _ _ h => h) (Or.inl ⟨by rfl, fun w hSw => by (obtain ⟨q0, q1, q2, q3⟩ : w.cell? ⟨N16, 0, none⟩ = _ ∧ w.cell? ⟨N16, 1, none⟩ = _ ∧ w.cell? ⟨N16, 2, none⟩ = _ ∧ w.cell? ⟨N16, 3, none⟩ = _ := hSw.2.1; clear hSw; go_simp)⟩) HS0 ?_
  simp only [Act.put, List.setIfInBounds_toArray]
  try dsimp only [List.set_cons_zero, List.set_cons_succ]
  refine wpZ_take (i := 6) (v := .slice (some ⟨zb, zo, none⟩) m cz) 58 rfl rfl (by kernel_rfl) (by kernel_rfl) (by kernel_rfl) (Or.inr (by decide)) (fun _ _ _ h => h) (Or.inl ⟨by rfl, fun w hSw => by go_simp⟩) HS0 ?_
  simp only [Act.put, List.setIfInBounds_toArray]
  try dsimp only [List.set_cons_zero, List.set_cons_succ]
  refine wpZ_take (i := 7) (v := .pointer (some ⟨zb, zo, none⟩)) 59 rfl rfl (by kernel_rfl) (by kernel_rfl) (by kernel_rfl) (Or.inr (by decide)) (fun _ _ _ h => h) (Or.inl ⟨by rfl, fun w hSw => by go_simp⟩) HS0 ?_
  simp only [Act.put, List.setIfInBounds_toArray]
  try dsimp only [List.set_cons_zero, List.set_cons_succ]
  refine wpZ_take (i := 8) (v := .pointer (some ⟨zb, zo, none⟩)) 60 rfl rfl (by kernel_rfl) (by kernel_rfl) (by kernel_rfl) (Or.inr (by decide)) (fun _ _ _ h => h) (Or.inl ⟨by rfl, fun w hSw => by go_simp⟩) HS0 ?_
  simp only [Act.put, List.setIfInBounds_toArray]
  try dsimp only [List.set_cons_zero, List.set_cons_succ]
  refine wpZ_take (i := 9) (v := .agg #[.int .u64 ((limb 0 (p0) : Nat) : Int), .int .u64 ((limb 1 (p0) : Nat) : Int), .int .u64 ((limb 2 (p0) : Nat) : Int), .int .u64 ((limb 3 (p0) : Nat) : Int)]) 61 rfl rfl (by kernel_rfl) (by kernel_rfl) (by kernel_rfl) (Or.inr (by decide)) (fun _ _ _ h => h) (Or.inl ⟨by rfl, fun w hSw => by (obtain ⟨q0, q1, q2, q3⟩ : w.cell? ⟨zb, zo, none⟩ = _ ∧ w.cell? ⟨zb, zo + 1, none⟩ = _ ∧ w.cell? ⟨zb, zo + 2, none⟩ = _ ∧ w.cell? ⟨zb, zo + 3, none⟩ = _ := hSw.2.2; clear hSw; go_simp)⟩) HS0 ?_
  simp only [Act.put, List.setIfInBounds_toArray]
  try dsimp only [List.set_cons_zero, List.set_cons_succ]
  refine wpZ_one (i := 10) (by kernel_rfl) rfl (fun K hK => ?_)
  go_simp
  refine (Xs1.out wD).mono ?_
  rintro e wE1 ⟨rfl, hbx1⟩
  have lowwE1 := bStep lowD hbx1
  have SwE1 : Rd4 wE1 N8 4 fi ∧ Rd4 wE1 N16 0 1 ∧ Rd4 wE1 zb (zo) p0 := ⟨K0.below lowwE1 kl0, K1.below lowwE1 kl1, K2.below lowwE1 kl2⟩
  go_wp2_with fail
  refine hK.out _ _ (fun _ => SwE1) ?_
  clear hK K hbx1
  refine wpZ_one (i := 11) (by kernel_rfl) rfl (fun K hK => ?_)
  go_simp
  refine (Xj0.out wE1).mono ?_
  rintro e wE2 ⟨rfl, hbx2⟩
  have lowwE2 := bStep lowwE1 hbx2
  have SwE2 : Rd4 wE2 N8 4 fi ∧ Rd4 wE2 N16 0 1 ∧ Rd4 wE2 zb (zo) p0 := ⟨K0.below lowwE2 kl0, K1.below lowwE2 kl1, K2.below lowwE2 kl2⟩
  go_wp2_with fail
  refine hK.out _ _ (fun _ => SwE2) ?_
  clear hK K hbx2
  refine wpZ_one (i := 12) (by kernel_rfl) rfl (fun K hK => ?_)
  go_simp
  have ownF := own5.below lowwE2
  obtain ⟨wG, hwG⟩ : ∃ z : World, z = wE2.alloc (.cells #[.int .u64 ((limb 0 j0 : Nat) : Int), .int .u64 ((limb 1 j0 : Nat) : Int), .int .u64 ((limb 2 j0 : Nat) : Int), .int .u64 ((limb 3 j0 : Nat) : Int)] 24) := ⟨_, rfl⟩
  obtain ⟨NF, eF⟩ : ∃ z, z = wE2.heap.size := ⟨_, rfl⟩
  have bF : Blk wG 24 NF (fun i => limb i j0) := by rw [hwG]; exact Blk.newAt _ _ _ (fun i => limb i j0) eF
  have hbG : Below wE2.heap.size wE2 wG := by rw [hwG]; exact bAlloc (Below.refl _ _) _
  have lowG := bStep lowwE2 hbG
  have ownG := ownF.below hbG
  have SG : Rd4 wG N8 4 fi ∧ Rd4 wG N16 0 1 ∧ Rd4 wG zb (zo) p0 := ⟨K0.below lowG kl0, K1.below lowG kl1, K2.below lowG kl2⟩
  rw [← hwG, ← eF]
  refine hK.out _ _ (fun _ => SG) ?_
  clear hK K hwG eF hbG ownF
  have cF := bF.cell
  have lBG : BZ ≤ wG.heap.size := Nat.le_trans lBa lowG.size
  have lG0 : N8 < wG.heap.size := Nat.lt_of_lt_of_le kl0 lowG.size
  have lG1 : N16 < wG.heap.size := Nat.lt_of_lt_of_le kl1 lowG.size
  have lG2 : zb < wG.heap.size := Nat.lt_of_lt_of_le kl2 lowG.size
  refine wpZ_one (i := 13) (by kernel_rfl) rfl (fun K hK => ?_)
  rw [if_pos (show Region.wanted _ _ = true from rfl)]
  refine wp_append_keep wG _ _ 32 rfl BZ 24 i0 (.agg #[.int .u64 0, .int .u64 0, .int .u64 0, .int .u64 0]) 4 32 Tryd.underlying32 HI.out HZ.out.1 HZ.out.2.1 HZ.out.2.2 rfl (by decide) _ L.length (els (fun i => L.getD i 0) L.length) rfl ownG ⟨NF, 0, none⟩ 1 1 [.int .u64 ((limb 0 j0 : Nat) : Int), .int .u64 ((limb 1 j0 : Nat) : Int), .int .u64 ((limb 2 j0 : Nat) : Int), .int .u64 ((limb 3 j0 : Nat) : Int)] rfl rfl ?c1 ?c2 ?c3 ?c4 lBG ?_
  case c1 =>
    intro q u hu
    have hadd : (⟨NF, 0, none⟩ : Addr).add q = ⟨NF, q, none⟩ := by unfold Addr.add; split <;> simp_all
    rw [hadd]
    match q, hu with
    | 0, hu => simp at hu; subst hu; exact cF 0 (by decide)
    | 1, hu => simp at hu; subst hu; exact cF 1 (by decide)
    | 2, hu => simp at hu; subst hu; exact cF 2 (by decide)
    | 3, hu => simp at hu; subst hu; exact cF 3 (by decide)
    | q + 4, hu => simp at hu
  case c2 => first | exact ⟨rfl, rfl, rfl, rfl⟩ | (intro u hu; simp at hu; rcases hu with rfl | rfl | rfl | rfl <;> rfl)
  case c3 => unfold maxLen; omega
  case c4 => omega
  intro v6 wH own6' hgr6 hkp
  have own6 := OwnL.push own6'
  have S6 : Rd4 wH N8 4 fi ∧ Rd4 wH N16 0 1 ∧ Rd4 wH zb (zo) p0 := ⟨SG.1.same (hgr6.block N8 lG0 (fun h => (ne0) (Option.some.inj h).symm)), SG.2.1.same (hgr6.block N16 lG1 (fun h => (nBz) (Option.some.inj h).symm)), SG.2.2.same (hgr6.block zb lG2 (fun h => (ne2) (Option.some.inj h).symm))⟩
  have hbGH : Below BZ wG wH := (Below.refl BZ wG).grown hgr6 lBG (fun q hq => own_block_geE ownG hq)
  have hbG2 : Below BZ w0 wG := hba.trans (lowG.mono lBa)
  have hbH : Below BZ w0 wH := hbG2.trans hbGH
  have lBH : BZ ≤ wH.heap.size := Nat.le_trans lBG hbGH.size
  have own7 : OwnL wH BZ v6 (zL jp 0) := by rw [HL.out.2]; exact own6
  refine hK.out _ _ (fun _ => S6) ?_
  clear hK K own6' hgr6 hkp own6 ownG SG hbGH own5 hba hbG2
  refine wpZ_take (i := 14) (v := v6) 15 rfl rfl (by kernel_rfl) (by kernel_rfl) (by kernel_rfl) (Or.inr (by decide)) (fun _ _ _ h => h) (Or.inl ⟨by rfl, fun w hSw => by go_simp⟩) S6 ?_
  simp only [Act.put, List.setIfInBounds_toArray]
  try dsimp only [List.set_cons_zero, List.set_cons_succ]
  refine wpZ_done (by kernel_rfl) ?_ _
  have HB8 : Hid (Lay w0 27 N8 sp ∧ N8 < BZ) := ⟨b8, x8⟩
  have HBB : Hid ((Blk w0 24 N12 (fun i => limb i be) ∧ N12 < BZ) ∧ Blk w0 24 N13 (fun i => limb i ga) ∧ N13 < BZ) := ⟨⟨b12, x12⟩, b13, x13⟩
  have HBW : Hid (Below w.heap.size w w0 ∧ w.heap.size ≤ BZ) := ⟨hb0, lw0⟩
  clear b8 b12 b13 x8 x12 x13 hb0 lw0 K0 K1 K2 kl0 kl1 kl2 p8 ne0 ne2 nBz HL hL9 S6 HXB hb2 lB2 lzb lBa
  go_wp2
  go_loopw [15, 17] (fun zv jv wr => ∃ i : Nat, jv = .int .i64 (i : Int) ∧ 1 ≤ i ∧ i ≤ m ∧ OwnL wr BZ zv (zL jp (i - 1)) ∧ Below BZ w0 wr ∧ BZ ≤ wr.heap.size) (fun _ jv _ => m - (intOf jv).toNat)
  case atStart => exact ⟨1, rfl, by omega, by omega, own7, hbH, lBH⟩
  case round =>
    obtain ⟨i, rfl, hi1, hi, own, hb, lBr⟩ := hrel
    clear own7 hbH lBH
    have hm9 : m ≤ 1000 := XM.out.2.1
    have hbw : Below w.heap.size w wr := HBW.out.1.trans (hb.mono HBW.out.2)
    have p8 := HB8.out.1.below hb HB8.out.2
    have hcl := XC.out.below hbw XC.out.1
    have lzr : zb < wr.heap.size := hcl.1
    have lzB : zb < BZ := Nat.lt_of_lt_of_le XC.out.1 HBW.out.2
    have l8B := HB8.out.2
    by_cases hlt : i < m
    · have him : (i : Int) < (m : Int) := by omega
      obtain ⟨j, ej⟩ : ∃ j, j = i - 1 := ⟨_, rfl⟩
      have hjm : j < m := by omega
      have hjm' : (j : Int) < (m : Int) := by omega
      have hjw : IntKind.i64.wrap ((i : Int) - 1) = (j : Int) := by rw [show (i : Int) - 1 = (j : Int) by omega]; exact wrap_i64_nat j (by omega)
      have HIJ : Hid (i = j + 1) := by show _ = _; omega
      rw [← ej] at own
      clear ej
      obtain ⟨L, eL⟩ : ∃ L, L = zL jp j := ⟨_, rfl⟩
      have HL : Hid (L.length = j + 1 ∧ zL jp (j + 1) = L ++ [jp (j + 1)]) := by rw [eL]; exact ⟨zL_len _ _, zL_succ _ _⟩
      rw [← eL] at own
      clear eL
      have hL9 : L.length ≤ 1001 := by have := HL.out.1; omega
      obtain ⟨hA4, _, _⟩ := hcl.2 i hlt
      obtain ⟨_, _, hK4⟩ := hcl.2 j hjm
      obtain ⟨a, ea⟩ : ∃ a, a = At i := ⟨_, rfl⟩
      obtain ⟨d, ed⟩ : ∃ d, d = La j := ⟨_, rfl⟩
      have HSJ : Hid (∀ w, _) := Xjs.out i j HIJ.out hlt
      have HMJ : Hid (∀ w, _) := Xjm.out j (by rw [← HIJ.out]; exact hlt)
      rw [← ea] at hA4 HSJ
      rw [← ed] at hK4 HSJ
      obtain ⟨t, et⟩ : ∃ t, t = sb j := ⟨_, rfl⟩
      rw [← et] at HSJ HMJ
      obtain ⟨y, ey⟩ : ∃ y, y = jp (j + 1) := ⟨_, rfl⟩
      rw [← ey] at HMJ HL
      have G1 : Rd4 wr zb (zo + i * 12) a := ⟨hA4 0 (by decide), hA4 1 (by decide), hA4 2 (by decide), hA4 3 (by decide)⟩
      have G2 : Rd4 wr zb (zo + j * 12 + 8) d := ⟨hK4 0 (by decide), hK4 1 (by decide), hK4 2 (by decide), hK4 3 (by decide)⟩
      have G0 : Rd4 wr N8 4 fi := p8.el XS.out.2.2.1
      have gl0 : N8 < wr.heap.size := p8.lt
      clear hA4 hK4 ea ed et ey hcl
      rcases own.2 with ⟨_, h0⟩ | ⟨lb, cap, cur, rfl, hbz, hgz, hcp, hcm, hcs, htk⟩
      · exact absurd h0 (by have := HL.out.1; omega)
      clear hgz hcs htk
      have ne0 : lb ≠ N8 := by omega
      have ne1 : lb ≠ zb := by omega
      clear hbz
      go_upto_region 9 with fail
      refine wp_region_Z (fun w' => Rd4 w' N8 4 fi ∧ Rd4 w' zb (zo + i * 12) a ∧ Rd4 w' zb (zo + j * 12 + 8) d) 99 (by kernel_rfl) ?_
      obtain ⟨wD, hD⟩ : ∃ z : World, z = wr.drew := ⟨_, rfl⟩
      rw [← hD]
      have lowD : Below wr.heap.size wr wD := by rw [hD]; exact (Below.refl _ _).drew
      clear hD
      have HS0 : Rd4 wD N8 4 fi ∧ Rd4 wD zb (zo + i * 12) a ∧ Rd4 wD zb (zo + j * 12 + 8) d := ⟨G0.below lowD gl0, G1.below lowD lzr, G2.below lowD lzr⟩
      refine wpZ_take (i := 0) (v := .slice (some ⟨lb, 0, none⟩) L.length cap) 72 rfl rfl (by kernel_rfl) (by kernel_rfl) (by kernel_rfl) (Or.inr (by decide)) (fun _ _ _ h => h) (Or.inl ⟨by rfl, fun w hSw => by go_simp⟩) HS0 ?_
      simp only [Act.put, List.setIfInBounds_toArray]
      try dsimp only [List.set_cons_zero, List.set_cons_succ]
      refine wpZ_take (i := 1) (v := .int .i64 si) 73 rfl rfl (by kernel_rfl) (by kernel_rfl) (by kernel_rfl) (Or.inr (by decide)) (fun _ _ _ h => h) (Or.inl ⟨by rfl, fun w hSw => by go_simp⟩) HS0 ?_
      simp only [Act.put, List.setIfInBounds_toArray]
      try dsimp only [List.set_cons_zero, List.set_cons_succ]
      refine wpZ_take (i := 2) (v := .pointer (some ⟨N8, 4, none⟩)) 74 rfl rfl (by kernel_rfl) (by kernel_rfl) (by kernel_rfl) (Or.inr (by decide)) (fun _ _ _ h => h) (Or.inl ⟨by rfl, fun w hSw => by go_simp⟩) HS0 ?_
      simp only [Act.put, List.setIfInBounds_toArray]
      try dsimp only [List.set_cons_zero, List.set_cons_succ]
      refine wpZ_take (i := 3) (v := .agg #[.int .u64 ((limb 0 (fi) : Nat) : Int), .int .u64 ((limb 1 (fi) : Nat) : Int), .int .u64 ((limb 2 (fi) : Nat) : Int), .int .u64 ((limb 3 (fi) : Nat) : Int)]) 75 rfl rfl (by kernel_rfl) (by kernel_rfl) (by kernel_rfl) (Or.inr (by decide)) (fun _ _ _ h => h) (Or.inl ⟨by rfl, fun w hSw => by (obtain ⟨q0, q1, q2, q3⟩ : w.cell? ⟨N8, 4, none⟩ = _ ∧ w.cell? ⟨N8, 5, none⟩ = _ ∧ w.cell? ⟨N8, 6, none⟩ = _ ∧ w.cell? ⟨N8, 7, none⟩ = _ := hSw.1; clear hSw; go_simp)⟩) HS0 ?_
      simp only [Act.put, List.setIfInBounds_toArray]
      try dsimp only [List.set_cons_zero, List.set_cons_succ]
      refine wpZ_take (i := 4) (v := .int .i64 si) 76 rfl rfl (by kernel_rfl) (by kernel_rfl) (by kernel_rfl) (Or.inr (by decide)) (fun _ _ _ h => h) (Or.inl ⟨by rfl, fun w hSw => by go_simp⟩) HS0 ?_
      simp only [Act.put, List.setIfInBounds_toArray]
      try dsimp only [List.set_cons_zero, List.set_cons_succ]
      refine wpZ_take (i := 5) (v := .slice (some ⟨zb, zo, none⟩) m cz) 77 rfl rfl (by kernel_rfl) (by kernel_rfl) (by kernel_rfl) (Or.inr (by decide)) (fun _ _ _ h => h) (Or.inl ⟨by rfl, fun w hSw => by go_simp⟩) HS0 ?_
      simp only [Act.put, List.setIfInBounds_toArray]
      try dsimp only [List.set_cons_zero, List.set_cons_succ]
      refine wpZ_take (i := 6) (v := .int .i64 (i : Int)) 78 rfl rfl (by kernel_rfl) (by kernel_rfl) (by kernel_rfl) (Or.inr (by decide)) (fun _ _ _ h => h) (Or.inl ⟨by rfl, fun w hSw => by go_simp⟩) HS0 ?_
      simp only [Act.put, List.setIfInBounds_toArray]
      try dsimp only [List.set_cons_zero, List.set_cons_succ]
      refine wpZ_take (i := 7) (v := .pointer (some ⟨zb, zo + i * 12, none⟩)) 79 rfl rfl (by kernel_rfl) (by kernel_rfl) (by kernel_rfl) (Or.inr (by decide)) (fun _ _ _ h => h) (Or.inl ⟨by rfl, fun w hSw => by go_simp⟩) HS0 ?_
      simp only [Act.put, List.setIfInBounds_toArray]
      try dsimp only [List.set_cons_zero, List.set_cons_succ]
      refine wpZ_take (i := 8) (v := .pointer (some ⟨zb, zo + i * 12, none⟩)) 80 rfl rfl (by kernel_rfl) (by kernel_rfl) (by kernel_rfl) (Or.inr (by decide)) (fun _ _ _ h => h) (Or.inl ⟨by rfl, fun w hSw => by go_simp⟩) HS0 ?_
      simp only [Act.put, List.setIfInBounds_toArray]
      try dsimp only [List.set_cons_zero, List.set_cons_succ]
      refine wpZ_take (i := 9) (v := .agg #[.int .u64 ((limb 0 (a) : Nat) : Int), .int .u64 ((limb 1 (a) : Nat) : Int), .int .u64 ((limb 2 (a) : Nat) : Int), .int .u64 ((limb 3 (a) : Nat) : Int)]) 81 rfl rfl (by kernel_rfl) (by kernel_rfl) (by kernel_rfl) (Or.inr (by decide)) (fun _ _ _ h => h) (Or.inl ⟨by rfl, fun w hSw => by (obtain ⟨q0, q1, q2, q3⟩ : w.cell? ⟨zb, zo + i * 12, none⟩ = _ ∧ w.cell? ⟨zb, zo + i * 12 + 1, none⟩ = _ ∧ w.cell? ⟨zb, zo + i * 12 + 2, none⟩ = _ ∧ w.cell? ⟨zb, zo + i * 12 + 3, none⟩ = _ := hSw.2.1; clear hSw; go_simp)⟩) HS0 ?_
      simp only [Act.put, List.setIfInBounds_toArray]
      try dsimp only [List.set_cons_zero, List.set_cons_succ]
      refine wpZ_take (i := 10) (v := .slice (some ⟨zb, zo, none⟩) m cz) 82 rfl rfl (by kernel_rfl) (by kernel_rfl) (by kernel_rfl) (Or.inr (by decide)) (fun _ _ _ h => h) (Or.inl ⟨by rfl, fun w hSw => by go_simp⟩) HS0 ?_
      simp only [Act.put, List.setIfInBounds_toArray]
      try dsimp only [List.set_cons_zero, List.set_cons_succ]
      refine wpZ_take (i := 11) (v := .int .i64 (i : Int)) 83 rfl rfl (by kernel_rfl) (by kernel_rfl) (by kernel_rfl) (Or.inr (by decide)) (fun _ _ _ h => h) (Or.inl ⟨by rfl, fun w hSw => by go_simp⟩) HS0 ?_
      simp only [Act.put, List.setIfInBounds_toArray]
      try dsimp only [List.set_cons_zero, List.set_cons_succ]
      refine wpZ_take (i := 12) (v := .int .i64 (j : Int)) 84 rfl rfl (by kernel_rfl) (by kernel_rfl) (by kernel_rfl) (Or.inr (by decide)) (fun _ _ _ h => h) (Or.inl ⟨by rfl, fun w hSw => by go_simp⟩) HS0 ?_
      simp only [Act.put, List.setIfInBounds_toArray]
      try dsimp only [List.set_cons_zero, List.set_cons_succ]
      refine wpZ_take (i := 13) (v := .pointer (some ⟨zb, zo + j * 12, none⟩)) 85 rfl rfl (by kernel_rfl) (by kernel_rfl) (by kernel_rfl) (Or.inr (by decide)) (fun _ _ _ h => h) (Or.inl ⟨by rfl, fun w hSw => by go_simp⟩) HS0 ?_
      simp only [Act.put, List.setIfInBounds_toArray]
      try dsimp only [List.set_cons_zero, List.set_cons_succ]
      refine wpZ_take (i := 14) (v := .pointer (some ⟨zb, zo + j * 12 + 8, none⟩)) 86 rfl rfl (by kernel_rfl) (by kernel_rfl) (by kernel_rfl) (Or.inr (by decide)) (fun _ _ _ h => h) (Or.inl ⟨by rfl, fun w hSw => by go_simp⟩) HS0 ?_
      simp only [Act.put, List.setIfInBounds_toArray]
      try dsimp only [List.set_cons_zero, List.set_cons_succ]
      refine wpZ_take (i := 15) (v := .agg #[.int .u64 ((limb 0 (d) : Nat) : Int), .int .u64 ((limb 1 (d) : Nat) : Int), .int .u64 ((limb 2 (d) : Nat) : Int), .int .u64 ((limb 3 (d) : Nat) : Int)]) 87 rfl rfl (by kernel_rfl) (by kernel_rfl) (by kernel_rfl) (Or.inr (by decide)) (fun _ _ _ h => h) (Or.inl ⟨by rfl, fun w hSw => by (obtain ⟨q0, q1, q2, q3⟩ : w.cell? ⟨zb, zo + j * 12 + 8, none⟩ = _ ∧ w.cell? ⟨zb, zo + j * 12 + 8 + 1, none⟩ = _ ∧ w.cell? ⟨zb, zo + j * 12 + 8 + 2, none⟩ = _ ∧ w.cell? ⟨zb, zo + j * 12 + 8 + 3, none⟩ = _ := hSw.2.2; clear hSw; go_simp)⟩) HS0 ?_
      simp only [Act.put, List.setIfInBounds_toArray]
      try dsimp only [List.set_cons_zero, List.set_cons_succ]
      refine wpZ_one (i := 16) (by kernel_rfl) rfl (fun K hK => ?_)
      go_simp
      refine (HSJ.out wD).mono ?_
      rintro e wE1 ⟨rfl, hbx1⟩
      have lowwE1 := bStep lowD hbx1
      have SwE1 : Rd4 wE1 N8 4 fi ∧ Rd4 wE1 zb (zo + i * 12) a ∧ Rd4 wE1 zb (zo + j * 12 + 8) d := ⟨G0.below lowwE1 gl0, G1.below lowwE1 lzr, G2.below lowwE1 lzr⟩
      go_wp2_with fail
      refine hK.out _ _ (fun _ => SwE1) ?_
      clear hK K hbx1
      refine wpZ_one (i := 17) (by kernel_rfl) rfl (fun K hK => ?_)
      go_simp
      refine (HMJ.out wE1).mono ?_
      rintro e wE2 ⟨rfl, hbx2⟩
      have lowwE2 := bStep lowwE1 hbx2
      have SwE2 : Rd4 wE2 N8 4 fi ∧ Rd4 wE2 zb (zo + i * 12) a ∧ Rd4 wE2 zb (zo + j * 12 + 8) d := ⟨G0.below lowwE2 gl0, G1.below lowwE2 lzr, G2.below lowwE2 lzr⟩
      go_wp2_with fail
      refine hK.out _ _ (fun _ => SwE2) ?_
      clear hK K hbx2
      refine wpZ_one (i := 18) (by kernel_rfl) rfl (fun K hK => ?_)
      go_simp
      have ownF := own.below lowwE2
      obtain ⟨wG, hwG⟩ : ∃ z : World, z = wE2.alloc (.cells #[.int .u64 ((limb 0 y : Nat) : Int), .int .u64 ((limb 1 y : Nat) : Int), .int .u64 ((limb 2 y : Nat) : Int), .int .u64 ((limb 3 y : Nat) : Int)] 24) := ⟨_, rfl⟩
      obtain ⟨NF, eF⟩ : ∃ z, z = wE2.heap.size := ⟨_, rfl⟩
      have bF : Blk wG 24 NF (fun i => limb i y) := by rw [hwG]; exact Blk.newAt _ _ _ (fun i => limb i y) eF
      have hbG : Below wE2.heap.size wE2 wG := by rw [hwG]; exact bAlloc (Below.refl _ _) _
      have lowG := bStep lowwE2 hbG
      have ownG := ownF.below hbG
      have SG : Rd4 wG N8 4 fi ∧ Rd4 wG zb (zo + i * 12) a ∧ Rd4 wG zb (zo + j * 12 + 8) d := ⟨G0.below lowG gl0, G1.below lowG lzr, G2.below lowG lzr⟩
      rw [← hwG, ← eF]
      refine hK.out _ _ (fun _ => SG) ?_
      clear hK K hwG eF hbG ownF
      have cF := bF.cell
      have lBG : BZ ≤ wG.heap.size := Nat.le_trans lBr lowG.size
      have lG0 : N8 < wG.heap.size := Nat.lt_of_lt_of_le gl0 lowG.size
      have lG1 : zb < wG.heap.size := Nat.lt_of_lt_of_le lzr lowG.size
      have lG2 : zb < wG.heap.size := Nat.lt_of_lt_of_le lzr lowG.size
      refine wpZ_one (i := 19) (by kernel_rfl) rfl (fun K hK => ?_)
      rw [if_pos (show Region.wanted _ _ = true from rfl)]
      refine wp_append_keep wG _ _ 32 rfl BZ 24 i0 (.agg #[.int .u64 0, .int .u64 0, .int .u64 0, .int .u64 0]) 4 32 Tryd.underlying32 HI.out HZ.out.1 HZ.out.2.1 HZ.out.2.2 rfl (by decide) _ L.length (els (fun i => L.getD i 0) L.length) rfl ownG ⟨NF, 0, none⟩ 1 1 [.int .u64 ((limb 0 y : Nat) : Int), .int .u64 ((limb 1 y : Nat) : Int), .int .u64 ((limb 2 y : Nat) : Int), .int .u64 ((limb 3 y : Nat) : Int)] rfl rfl ?c1 ?c2 ?c3 ?c4 lBG ?_
      case c1 =>
        intro q u hu
        have hadd : (⟨NF, 0, none⟩ : Addr).add q = ⟨NF, q, none⟩ := by unfold Addr.add; split <;> simp_all
        rw [hadd]
        match q, hu with
        | 0, hu => simp at hu; subst hu; exact cF 0 (by decide)
        | 1, hu => simp at hu; subst hu; exact cF 1 (by decide)
        | 2, hu => simp at hu; subst hu; exact cF 2 (by decide)
        | 3, hu => simp at hu; subst hu; exact cF 3 (by decide)
        | q + 4, hu => simp at hu
      case c2 => first | exact ⟨rfl, rfl, rfl, rfl⟩ | (intro u hu; simp at hu; rcases hu with rfl | rfl | rfl | rfl <;> rfl)
      case c3 => unfold maxLen; omega
      case c4 => omega
      intro v6 wH own6' hgr6 hkp
      have own6 := OwnL.push own6'
      have S6 : Rd4 wH N8 4 fi ∧ Rd4 wH zb (zo + i * 12) a ∧ Rd4 wH zb (zo + j * 12 + 8) d := ⟨SG.1.same (hgr6.block N8 lG0 (fun h => (ne0) (Option.some.inj h).symm)), SG.2.1.same (hgr6.block zb lG1 (fun h => (ne1) (Option.some.inj h).symm)), SG.2.2.same (hgr6.block zb lG2 (fun h => (ne1) (Option.some.inj h).symm))⟩
      have hbGH : Below BZ wG wH := (Below.refl BZ wG).grown hgr6 lBG (fun q hq => own_block_geE ownG hq)
      have hbG2 : Below BZ w0 wG := hb.trans (lowG.mono lBr)
      have hbH : Below BZ w0 wH := hbG2.trans hbGH
      have lBH : BZ ≤ wH.heap.size := Nat.le_trans lBG hbGH.size
      have HOH : Hid (OwnL wH BZ v6 (zL jp i)) := by show OwnL _ _ _ _; rw [HIJ.out, HL.out.2]; exact own6
      refine hK.out _ _ (fun _ => S6) ?_
      clear hK K own6' hgr6 hkp own6 ownG SG hbGH own hbG2
      refine wpZ_take (i := 20) (v := v6) 15 rfl rfl (by kernel_rfl) (by kernel_rfl) (by kernel_rfl) (Or.inr (by decide)) (fun _ _ _ h => h) (Or.inl ⟨by rfl, fun w hSw => by go_simp⟩) S6 ?_
      simp only [Act.put, List.setIfInBounds_toArray]
      try dsimp only [List.set_cons_zero, List.set_cons_succ]
      refine wpZ_done (by kernel_rfl) ?_ _
      go_wp2
      go_roundw
      case measure => simp [intOf]; omega
      case rel => exact ⟨i + 1, by go_num, by omega, by omega, HOH.out, hbH, lBH⟩
    · have him : ¬ (i : Int) < (m : Int) := by omega
      obtain rfl : m = i := by omega
      obtain ⟨k, ek⟩ : ∃ k, k = m - 1 := ⟨_, rfl⟩
      have HK : Hid (k = m - 1) := ek
      have hmw : IntKind.i64.wrap ((m : Int) - 1) = (k : Int) := by rw [show (m : Int) - 1 = (k : Int) by omega]; exact wrap_i64_nat k (by omega)
      have hnm : (k : Int) < (m : Int) := by omega
      have hnm' : k < m := by omega
      have HM : Hid (1 ≤ m) := hi1
      obtain ⟨L, eL⟩ : ∃ L, L = zL jp (m - 1) := ⟨_, rfl⟩
      have HL : Hid (L.length ≤ m ∧ L = zL jp (m - 1)) := by rw [eL]; exact ⟨by rw [zL_len]; omega, rfl⟩
      have HLP : Hid (0 < L.length) := by rw [eL]; show 0 < _; rw [zL_len]; omega
      rw [← eL] at own
      clear eL
      have hL9 : L.length ≤ 1001 := by have := HL.out.1; omega
      obtain ⟨hA4, _, _⟩ := hcl.2 k hnm'
      have HEN : en = At k := by rw [HK.out]; exact XM.out.2.2.2.2.2.2.2
      rw [← HEN] at hA4
      have c0 : wr.cell? ⟨zb, zo + k * 12, none⟩ = some (.int .u64 ((limb 0 en : Nat) : Int)) := hA4 0 (by decide)
      have c1 : wr.cell? ⟨zb, zo + k * 12 + 1, none⟩ = some (.int .u64 ((limb 1 en : Nat) : Int)) := hA4 1 (by decide)
      have c2 : wr.cell? ⟨zb, zo + k * 12 + 2, none⟩ = some (.int .u64 ((limb 2 en : Nat) : Int)) := hA4 2 (by decide)
      have c3 : wr.cell? ⟨zb, zo + k * 12 + 3, none⟩ = some (.int .u64 ((limb 3 en : Nat) : Int)) := hA4 3 (by decide)
      have K0 : Rd4 wr N8 8 la := p8.el XS.out.2.2.2.1
      clear hA4 hcl HEN ek hi
      rcases own.2 with ⟨_, h0⟩ | ⟨lb, cap, cur, rfl, hbz, hgz, hcp, hcm, hcs, htk⟩
      · exact absurd h0 (by have := HLP.out; omega)
      have llb : lb < wr.heap.size := (Array.getElem?_eq_some_iff.1 hgz).1
      clear hgz hcs htk
      go_upto_region 11 with fail
      obtain ⟨wa, hwa⟩ : ∃ z : World, z = wr.alloc (.cells #[.int .u64 ((limb 0 (en) : Nat) : Int), .int .u64 ((limb 1 (en) : Nat) : Int), .int .u64 ((limb 2 (en) : Nat) : Int), .int .u64 ((limb 3 (en) : Nat) : Int)] 24) := ⟨_, rfl⟩
      obtain ⟨N18, e18⟩ : ∃ z, z = wr.heap.size := ⟨_, rfl⟩
      have b18 : Blk wa 24 N18 (fun i => limb i en) := by rw [hwa]; exact Blk.newAt _ _ _ (fun i => limb i en) e18
      have hbn : Below wr.heap.size wr wa := by rw [hwa]; exact bAlloc (Below.refl _ _) _
      have G0 := K0.below hbn p8.lt
      have G1 : Rd4 wa N18 0 en := by have c := b18.cell; exact ⟨c 0 (by decide), c 1 (by decide), c 2 (by decide), c 3 (by decide)⟩
      have own5 := own.below hbn
      have gl0 : N8 < wa.heap.size := Nat.lt_of_lt_of_le p8.lt hbn.size
      have gl1 : N18 < wa.heap.size := b18.lt
      have hba : Below BZ w0 wa := hb.trans (hbn.mono lBr)
      have lBa : BZ ≤ wa.heap.size := Nat.le_trans lBr hbn.size
      have ne0 : lb ≠ N8 := by omega
      have ne1 : lb ≠ N18 := by omega
      rw [← hwa]
      try rw [← e18]
      clear hwa e18 hbn K0 own p8 hb lBr b18 c0 c1 c2 c3 llb hbz
      refine wp_region_Z (fun w' => Rd4 w' N8 8 la ∧ Rd4 w' N18 0 en) 99 (by kernel_rfl) ?_
      obtain ⟨wD, hD⟩ : ∃ z : World, z = wa.drew := ⟨_, rfl⟩
      rw [← hD]
      have lowD : Below wa.heap.size wa wD := by rw [hD]; exact (Below.refl _ _).drew
      clear hD
      have HS0 : Rd4 wD N8 8 la ∧ Rd4 wD N18 0 en := ⟨G0.below lowD gl0, G1.below lowD gl1⟩
      refine wpZ_take (i := 0) (v := .slice (some ⟨lb, 0, none⟩) L.length cap) 99 rfl rfl (by kernel_rfl) (by kernel_rfl) (by kernel_rfl) (Or.inr (by decide)) (fun _ _ _ h => h) (Or.inl ⟨by rfl, fun w hSw => by go_simp⟩) HS0 ?_
      simp only [Act.put, List.setIfInBounds_toArray]
      try dsimp only [List.set_cons_zero, List.set_cons_succ]
      refine wpZ_take (i := 1) (v := .int .i64 si) 100 rfl rfl (by kernel_rfl) (by kernel_rfl) (by kernel_rfl) (Or.inr (by decide)) (fun _ _ _ h => h) (Or.inl ⟨by rfl, fun w hSw => by go_simp⟩) HS0 ?_
      simp only [Act.put, List.setIfInBounds_toArray]
      try dsimp only [List.set_cons_zero, List.set_cons_succ]
      refine wpZ_take (i := 2) (v := .pointer (some ⟨N8, 8, none⟩)) 101 rfl rfl (by kernel_rfl) (by kernel_rfl) (by kernel_rfl) (Or.inr (by decide)) (fun _ _ _ h => h) (Or.inl ⟨by rfl, fun w hSw => by go_simp⟩) HS0 ?_
      simp only [Act.put, List.setIfInBounds_toArray]
      try dsimp only [List.set_cons_zero, List.set_cons_succ]
      refine wpZ_take (i := 3) (v := .agg #[.int .u64 ((limb 0 (la) : Nat) : Int), .int .u64 ((limb 1 (la) : Nat) : Int), .int .u64 ((limb 2 (la) : Nat) : Int), .int .u64 ((limb 3 (la) : Nat) : Int)]) 102 rfl rfl (by kernel_rfl) (by kernel_rfl) (by kernel_rfl) (Or.inr (by decide)) (fun _ _ _ h => h) (Or.inl ⟨by rfl, fun w hSw => by (obtain ⟨q0, q1, q2, q3⟩ : w.cell? ⟨N8, 8, none⟩ = _ ∧ w.cell? ⟨N8, 9, none⟩ = _ ∧ w.cell? ⟨N8, 10, none⟩ = _ ∧ w.cell? ⟨N8, 11, none⟩ = _ := hSw.1; clear hSw; go_simp)⟩) HS0 ?_
      simp only [Act.put, List.setIfInBounds_toArray]
      try dsimp only [List.set_cons_zero, List.set_cons_succ]
      refine wpZ_take (i := 4) (v := .int .i64 si) 103 rfl rfl (by kernel_rfl) (by kernel_rfl) (by kernel_rfl) (Or.inr (by decide)) (fun _ _ _ h => h) (Or.inl ⟨by rfl, fun w hSw => by go_simp⟩) HS0 ?_
      simp only [Act.put, List.setIfInBounds_toArray]
      try dsimp only [List.set_cons_zero, List.set_cons_succ]
      refine wpZ_take (i := 5) (v := .int .i64 si) 104 rfl rfl (by kernel_rfl) (by kernel_rfl) (by kernel_rfl) (Or.inr (by decide)) (fun _ _ _ h => h) (Or.inl ⟨by rfl, fun w hSw => by go_simp⟩) HS0 ?_
      simp only [Act.put, List.setIfInBounds_toArray]
      try dsimp only [List.set_cons_zero, List.set_cons_succ]
      refine wpZ_take (i := 6) (v := .agg #[.int .u64 ((limb 0 (en) : Nat) : Int), .int .u64 ((limb 1 (en) : Nat) : Int), .int .u64 ((limb 2 (en) : Nat) : Int), .int .u64 ((limb 3 (en) : Nat) : Int)]) 105 rfl rfl (by kernel_rfl) (by kernel_rfl) (by kernel_rfl) (Or.inr (by decide)) (fun _ _ _ h => h) (Or.inl ⟨by rfl, fun w hSw => by (obtain ⟨q0, q1, q2, q3⟩ : w.cell? ⟨N18, 0, none⟩ = _ ∧ w.cell? ⟨N18, 1, none⟩ = _ ∧ w.cell? ⟨N18, 2, none⟩ = _ ∧ w.cell? ⟨N18, 3, none⟩ = _ := hSw.2; clear hSw; go_simp)⟩) HS0 ?_
      simp only [Act.put, List.setIfInBounds_toArray]
      try dsimp only [List.set_cons_zero, List.set_cons_succ]
      refine wpZ_take (i := 7) (v := .agg #[.int .u64 ((limb 0 (en) : Nat) : Int), .int .u64 ((limb 1 (en) : Nat) : Int), .int .u64 ((limb 2 (en) : Nat) : Int), .int .u64 ((limb 3 (en) : Nat) : Int)]) 106 rfl rfl (by kernel_rfl) (by kernel_rfl) (by kernel_rfl) (Or.inr (by decide)) (fun _ _ _ h => h) (Or.inl ⟨by rfl, fun w hSw => by (obtain ⟨q0, q1, q2, q3⟩ : w.cell? ⟨N18, 0, none⟩ = _ ∧ w.cell? ⟨N18, 1, none⟩ = _ ∧ w.cell? ⟨N18, 2, none⟩ = _ ∧ w.cell? ⟨N18, 3, none⟩ = _ := hSw.2; clear hSw; go_simp)⟩) HS0 ?_
      simp only [Act.put, List.setIfInBounds_toArray]
      try dsimp only [List.set_cons_zero, List.set_cons_succ]
      refine wpZ_take (i := 9) (v := .agg #[.int .u64 ((limb 0 (en) : Nat) : Int), .int .u64 ((limb 1 (en) : Nat) : Int), .int .u64 ((limb 2 (en) : Nat) : Int), .int .u64 ((limb 3 (en) : Nat) : Int)]) 108 rfl rfl (by kernel_rfl) (by kernel_rfl) (by kernel_rfl) (Or.inr (by decide)) (fun _ _ _ h => h) (Or.inl ⟨by rfl, fun w hSw => by (obtain ⟨q0, q1, q2, q3⟩ : w.cell? ⟨N18, 0, none⟩ = _ ∧ w.cell? ⟨N18, 1, none⟩ = _ ∧ w.cell? ⟨N18, 2, none⟩ = _ ∧ w.cell? ⟨N18, 3, none⟩ = _ := hSw.2; clear hSw; go_simp)⟩) HS0 ?_
      simp only [Act.put, List.setIfInBounds_toArray]
      try dsimp only [List.set_cons_zero, List.set_cons_succ]
      refine wpZ_one (i := 8) (by kernel_rfl) rfl (fun K hK => ?_)
      go_simp
      refine (Xe1.out wD).mono ?_
      rintro e wE1 ⟨rfl, hbx1⟩
      have lowwE1 := bStep lowD hbx1
      have SwE1 : Rd4 wE1 N8 8 la ∧ Rd4 wE1 N18 0 en := ⟨G0.below lowwE1 gl0, G1.below lowwE1 gl1⟩
      go_wp2_with fail
      refine hK.out _ _ (fun _ => SwE1) ?_
      clear hK K hbx1
      refine wpZ_one (i := 10) (by kernel_rfl) rfl (fun K hK => ?_)
      go_simp
      refine (Xe2.out wE1).mono ?_
      rintro e wE2 ⟨rfl, hbx2⟩
      have lowwE2 := bStep lowwE1 hbx2
      have SwE2 : Rd4 wE2 N8 8 la ∧ Rd4 wE2 N18 0 en := ⟨G0.below lowwE2 gl0, G1.below lowwE2 gl1⟩
      go_wp2_with fail
      refine hK.out _ _ (fun _ => SwE2) ?_
      clear hK K hbx2
      refine wpZ_one (i := 11) (by kernel_rfl) rfl (fun K hK => ?_)
      go_simp
      refine (Xe3.out wE2).mono ?_
      rintro e wE3 ⟨rfl, hbx3⟩
      have lowwE3 := bStep lowwE2 hbx3
      have SwE3 : Rd4 wE3 N8 8 la ∧ Rd4 wE3 N18 0 en := ⟨G0.below lowwE3 gl0, G1.below lowwE3 gl1⟩
      go_wp2_with fail
      refine hK.out _ _ (fun _ => SwE3) ?_
      clear hK K hbx3
      refine wpZ_one (i := 12) (by kernel_rfl) rfl (fun K hK => ?_)
      go_simp
      have ownF := own5.below lowwE3
      obtain ⟨wG, hwG⟩ : ∃ z : World, z = wE3.alloc (.cells #[.int .u64 ((limb 0 q3 : Nat) : Int), .int .u64 ((limb 1 q3 : Nat) : Int), .int .u64 ((limb 2 q3 : Nat) : Int), .int .u64 ((limb 3 q3 : Nat) : Int)] 24) := ⟨_, rfl⟩
      obtain ⟨NF, eF⟩ : ∃ z, z = wE3.heap.size := ⟨_, rfl⟩
      have bF : Blk wG 24 NF (fun i => limb i q3) := by rw [hwG]; exact Blk.newAt _ _ _ (fun i => limb i q3) eF
      have hbG : Below wE3.heap.size wE3 wG := by rw [hwG]; exact bAlloc (Below.refl _ _) _
      have lowG := bStep lowwE3 hbG
      have ownG := ownF.below hbG
      have SG : Rd4 wG N8 8 la ∧ Rd4 wG N18 0 en := ⟨G0.below lowG gl0, G1.below lowG gl1⟩
      rw [← hwG, ← eF]
      refine hK.out _ _ (fun _ => SG) ?_
      clear hK K hwG eF hbG ownF
      have cF := bF.cell
      have lBG : BZ ≤ wG.heap.size := Nat.le_trans lBa lowG.size
      have lG0 : N8 < wG.heap.size := Nat.lt_of_lt_of_le gl0 lowG.size
      have lG1 : N18 < wG.heap.size := Nat.lt_of_lt_of_le gl1 lowG.size
      refine wpZ_one (i := 13) (by kernel_rfl) rfl (fun K hK => ?_)
      rw [if_pos (show Region.wanted _ _ = true from rfl)]
      refine wp_append_keep wG _ _ 32 rfl BZ 24 i0 (.agg #[.int .u64 0, .int .u64 0, .int .u64 0, .int .u64 0]) 4 32 Tryd.underlying32 HI.out HZ.out.1 HZ.out.2.1 HZ.out.2.2 rfl (by decide) _ L.length (els (fun i => L.getD i 0) L.length) rfl ownG ⟨NF, 0, none⟩ 1 1 [.int .u64 ((limb 0 q3 : Nat) : Int), .int .u64 ((limb 1 q3 : Nat) : Int), .int .u64 ((limb 2 q3 : Nat) : Int), .int .u64 ((limb 3 q3 : Nat) : Int)] rfl rfl ?c1 ?c2 ?c3 ?c4 lBG ?_
      case c1 =>
        intro q u hu
        have hadd : (⟨NF, 0, none⟩ : Addr).add q = ⟨NF, q, none⟩ := by unfold Addr.add; split <;> simp_all
        rw [hadd]
        match q, hu with
        | 0, hu => simp at hu; subst hu; exact cF 0 (by decide)
        | 1, hu => simp at hu; subst hu; exact cF 1 (by decide)
        | 2, hu => simp at hu; subst hu; exact cF 2 (by decide)
        | 3, hu => simp at hu; subst hu; exact cF 3 (by decide)
        | q + 4, hu => simp at hu
      case c2 => first | exact ⟨rfl, rfl, rfl, rfl⟩ | (intro u hu; simp at hu; rcases hu with rfl | rfl | rfl | rfl <;> rfl)
      case c3 => unfold maxLen; omega
      case c4 => omega
      intro v6 wH own6' hgr6 hkp
      have own6 := OwnL.push own6'
      have S6 : Rd4 wH N8 8 la ∧ Rd4 wH N18 0 en := ⟨SG.1.same (hgr6.block N8 lG0 (fun h => (ne0) (Option.some.inj h).symm)), SG.2.same (hgr6.block N18 lG1 (fun h => (ne1) (Option.some.inj h).symm))⟩
      have hbGH : Below BZ wG wH := (Below.refl BZ wG).grown hgr6 lBG (fun q hq => own_block_geE ownG hq)
      have hbG2 : Below BZ w0 wG := hba.trans (lowG.mono lBa)
      have hbH : Below BZ w0 wH := hbG2.trans hbGH
      have lBH : BZ ≤ wH.heap.size := Nat.le_trans lBG hbGH.size
      have own7 : OwnL wH BZ v6 (zL jp (m - 1) ++ [q3] ++ (List.range 0).map st) := by
        have h := own6
        rw [HL.out.2] at h
        rw [List.range_zero, List.map_nil, List.append_nil]; exact h
      refine hK.out _ _ (fun _ => S6) ?_
      clear hK K own6' hgr6 hkp own6 ownG SG hbGH own5 hba hbG2
      refine wpZ_take (i := 14) (v := v6) 15 rfl rfl (by kernel_rfl) (by kernel_rfl) (by kernel_rfl) (Or.inr (by decide)) (fun _ _ _ h => h) (Or.inl ⟨by rfl, fun w hSw => by go_simp⟩) S6 ?_
      simp only [Act.put, List.setIfInBounds_toArray]
      try dsimp only [List.set_cons_zero, List.set_cons_succ]
      refine wpZ_done (by kernel_rfl) ?_ _
      clear S6 lBa lBG lG0 lG1 gl0 gl1 G0 G1 HL HLP hL9 ne0 ne1 him hnm hnm' hmw HK hbw lzr lzB l8B
      go_wp2
      go_loopw [15, 19] (fun zv jv wr => ∃ j : Nat, jv = .int .i64 (j : Int) ∧ j ≤ m ∧ OwnL wr BZ zv (zL jp (m - 1) ++ [q3] ++ (List.range j).map st) ∧ Below BZ w0 wr ∧ BZ ≤ wr.heap.size) (fun _ jv _ => m - (intOf jv).toNat)
      case atStart => exact ⟨0, rfl, Nat.zero_le _, own7, hbH, lBH⟩
      case round =>
        obtain ⟨j, rfl, hj, own, hb, lBr⟩ := hrel
        clear own7 hbH lBH
        have hbw : Below w.heap.size w wr := HBW.out.1.trans (hb.mono HBW.out.2)
        by_cases hlt : j < m
        · have hjm : (j : Int) < (m : Int) := by omega
          obtain ⟨wq, rfl⟩ : ∃ z, z = wr := ⟨_, rfl⟩
          obtain ⟨a, ea⟩ : ∃ a, a = At j := ⟨_, rfl⟩
          obtain ⟨b, eb⟩ : ∃ b, b = Nx j := ⟨_, rfl⟩
          have HAB : Hid (pN j (2 * j) = b ∧ pO j (2 * j) = a) := ⟨by rw [eb]; exact XM.out.2.2.2.2.1 j, by rw [ea]; exact XM.out.2.2.2.2.2.1 j⟩
          have hj9 : j ≤ 1000 := by have := XM.out.2.1; omega
          obtain ⟨k2, ek2⟩ : ∃ k2, k2 = 2 * j := ⟨_, rfl⟩
          have hkw : IntKind.i64.wrap (2 * (j : Int)) = (k2 : Int) := by rw [show 2 * (j : Int) = (k2 : Int) by omega]; exact wrap_i64_nat k2 (by omega)
          have HK2 : Hid (k2 = 2 * j) := ek2
          have HE2 : Hid (2 * j ≤ eF j ∧ eF j ≤ n) := XM.out.2.2.2.1 j hlt
          clear ek2
          have HCB : Hid (∀ w', Below w.heap.size w w' → (∀ l, l < 4 → w'.cell? ⟨zb, zo + j * 12 + l, none⟩ = some (.int .u64 ((limb l a : Nat) : Int))) ∧ (∀ l, l < 4 → w'.cell? ⟨zb, zo + j * 12 + 4 + l, none⟩ = some (.int .u64 ((limb l b : Nat) : Int)))) := fun w' h => by
            have q := (XC.out.below h XC.out.1).2 j hlt
            rw [ea, eb]
            exact ⟨q.1, q.2.1⟩
          clear ea eb
          have q4 := (HCB.out wq hbw).2
          have c0 := q4 0 (by decide); have c1 := q4 1 (by decide); have c2 := q4 2 (by decide); have c3 := q4 3 (by decide)
          rw [Nat.add_zero] at c0
          clear q4
          go_upto_region 16 with fail
          obtain ⟨w4, hw4⟩ : ∃ z : World, z = wq.alloc (.cells #[.int .u64 ((limb 0 (b) : Nat) : Int), .int .u64 ((limb 1 (b) : Nat) : Int), .int .u64 ((limb 2 (b) : Nat) : Int), .int .u64 ((limb 3 (b) : Nat) : Int)] 24) := ⟨_, rfl⟩
          obtain ⟨N20, e20⟩ : ∃ z, z = wq.heap.size := ⟨_, rfl⟩
          have b20 : Blk w4 24 N20 (fun i => limb i b) := by rw [hw4]; exact Blk.newAt _ _ _ (fun i => limb i b) e20
          have hb4 : Below wq.heap.size wq w4 := by rw [hw4]; exact bAlloc (Below.refl _ _) _
          have hs4 : w4.heap.size = wq.heap.size + 1 := by rw [hw4]; exact Array.size_push ..
          have lr20 : wq.heap.size ≤ N20 := by omega
          have hbw4 := hbw.trans (hb4.mono hbw.size)
          have q4 := (HCB.out w4 hbw4).1
          have c0 := q4 0 (by decide); have c1 := q4 1 (by decide); have c2 := q4 2 (by decide); have c3 := q4 3 (by decide)
          rw [Nat.add_zero] at c0
          rw [← hw4]
          try rw [← e20]
          clear hw4 q4
          go_upto_region 17 with fail
          obtain ⟨w5, hw5⟩ : ∃ z : World, z = w4.alloc (.cells #[.int .u64 ((limb 0 (a) : Nat) : Int), .int .u64 ((limb 1 (a) : Nat) : Int), .int .u64 ((limb 2 (a) : Nat) : Int), .int .u64 ((limb 3 (a) : Nat) : Int)] 24) := ⟨_, rfl⟩
          obtain ⟨N21, e21⟩ : ∃ z, z = w4.heap.size := ⟨_, rfl⟩
          have b21 : Blk w5 24 N21 (fun i => limb i a) := by rw [hw5]; exact Blk.newAt _ _ _ (fun i => limb i a) e21
          have hb5 : Below w4.heap.size w4 w5 := by rw [hw5]; exact bAlloc (Below.refl _ _) _
          have b20' := b20.belowAll hb5
          have lr21 : wq.heap.size ≤ N21 := by omega
          have nn : N20 ≠ N21 := by omega
          have hbr5 : Below wq.heap.size wq w5 := hb4.trans (hb5.mono (by omega))
          have p20 : Blk w5 24 N20 (fun i => limb i (pN j k2)) := by rw [HK2.out, HAB.out.1]; exact b20'
          have p21 : Blk w5 24 N21 (fun i => limb i (pO j k2)) := by rw [HK2.out, HAB.out.2]; exact b21
          rw [← hw5]
          try rw [← e21]
          try rw [← hs4, ← e21]
          clear hw5 e21 e20 hs4 hb5 b20' b20 b21 hb4 c0 c1 c2 c3
          go_wp2
          go_loopw [22] (fun iv wr => ∃ i : Nat, iv = .int .i64 (i : Int) ∧ k2 ≤ i ∧ i ≤ eF j ∧ Below wq.heap.size wq wr ∧ Blk wr 24 N20 (fun l => limb l (pN j i)) ∧ Blk wr 24 N21 (fun l => limb l (pO j i))) (fun iv _ => eF j - (intOf iv).toNat)
          case atStart => exact ⟨k2, rfl, Nat.le_refl _, by have := HK2.out; have := HE2.out.1; omega, hbr5, p20, p21⟩
          case round =>
            obtain ⟨i, rfl, hik, hie, hbi, q20, q21⟩ := hrel
            clear p20 p21 hbr5
            go_wp2_with fail
            refine (Xed.out j hlt wr).mono ?_
            rintro e wx ⟨rfl, ex⟩
            rw [← ex] at hbi q20 q21
            clear ex
            by_cases hlt2 : i < eF j
            · have hij : (i : Int) < ((eF j : Nat) : Int) := by omega
              have hin : i < n := Nat.lt_of_lt_of_le hlt2 HE2.out.2
              have hi9 : i < 1000 := Nat.lt_of_lt_of_le hin XM.out.2.2.1
              have h2i : 2 * j ≤ i := by have := HK2.out; omega
              have HTN : Hid (∀ w, _) := Xtn.out i hin
              have HTO : Hid (∀ w, _) := Xto.out i hin
              have HSH : Hid (∀ w, _) := Xsh.out i hin
              have HMO : Hid (∀ w, _) := Xmo.out i hin
              have HPN : Hid (∀ w, _) := Xpn.out j i hlt h2i hlt2
              have HPO : Hid (∀ w, _) := Xpo.out j i hlt h2i hlt2
              have hbx0 : Below w.heap.size w wx := hbw.trans (hbi.mono hbw.size)
              obtain ⟨va, eva⟩ : ∃ z, z = A i := ⟨_, rfl⟩
              obtain ⟨vd, evd⟩ : ∃ z, z = D i := ⟨_, rfl⟩
              obtain ⟨vp, evp⟩ : ∃ z, z = pN j i := ⟨_, rfl⟩
              obtain ⟨vq, evq⟩ : ∃ z, z = pO j i := ⟨_, rfl⟩
              obtain ⟨vt, evt⟩ : ∃ z, z = tn i := ⟨_, rfl⟩
              obtain ⟨vT, evT⟩ : ∃ z, z = tO i := ⟨_, rfl⟩
              obtain ⟨vs, evs⟩ : ∃ z, z = sh i := ⟨_, rfl⟩
              obtain ⟨vo, evo⟩ : ∃ z, z = o i := ⟨_, rfl⟩
              obtain ⟨vy, evy⟩ : ∃ z, z = pN j (i + 1) := ⟨_, rfl⟩
              obtain ⟨vz, evz⟩ : ∃ z, z = pO j (i + 1) := ⟨_, rfl⟩
              rw [← eva, ← evd, ← evt] at HTN
              rw [← eva, ← evo, ← evT] at HTO
              rw [← evs] at HSH
              rw [← evs, ← evo] at HMO
              rw [← evp, ← evt, ← evy] at HPN
              rw [← evq, ← evT, ← evz] at HPO
              rw [← evp] at q20
              rw [← evq] at q21
              have HVY : Hid (vy = pN j (i + 1) ∧ vz = pO j (i + 1)) := ⟨evy, evz⟩
              have HCA : Hid (∀ w', Below w.heap.size w w' → w'.cell? ⟨ab, ao + i * 4, none⟩ = some (.int .u64 ((limb 0 va : Nat) : Int)) ∧ w'.cell? ⟨ab, ao + i * 4 + 1, none⟩ = some (.int .u64 ((limb 1 va : Nat) : Int)) ∧ w'.cell? ⟨ab, ao + i * 4 + 2, none⟩ = some (.int .u64 ((limb 2 va : Nat) : Int)) ∧ w'.cell? ⟨ab, ao + i * 4 + 3, none⟩ = some (.int .u64 ((limb 3 va : Nat) : Int))) := fun w' h => by
                rw [eva]
                exact ⟨(h.cell (p := ⟨ab, ao + i * 4, none⟩) XA.out.1).trans (XA.out.2 i hin 0 (by decide)), (h.cell (p := ⟨ab, ao + i * 4 + 1, none⟩) XA.out.1).trans (XA.out.2 i hin 1 (by decide)), (h.cell (p := ⟨ab, ao + i * 4 + 2, none⟩) XA.out.1).trans (XA.out.2 i hin 2 (by decide)), (h.cell (p := ⟨ab, ao + i * 4 + 3, none⟩) XA.out.1).trans (XA.out.2 i hin 3 (by decide))⟩
              have HCD : Hid (∀ w', Below w.heap.size w w' → w'.cell? ⟨bb, bo + i * 4, none⟩ = some (.int .u64 ((limb 0 vd : Nat) : Int)) ∧ w'.cell? ⟨bb, bo + i * 4 + 1, none⟩ = some (.int .u64 ((limb 1 vd : Nat) : Int)) ∧ w'.cell? ⟨bb, bo + i * 4 + 2, none⟩ = some (.int .u64 ((limb 2 vd : Nat) : Int)) ∧ w'.cell? ⟨bb, bo + i * 4 + 3, none⟩ = some (.int .u64 ((limb 3 vd : Nat) : Int))) := fun w' h => by
                rw [evd]
                exact ⟨(h.cell (p := ⟨bb, bo + i * 4, none⟩) XB.out.1).trans (XB.out.2 i hin 0 (by decide)), (h.cell (p := ⟨bb, bo + i * 4 + 1, none⟩) XB.out.1).trans (XB.out.2 i hin 1 (by decide)), (h.cell (p := ⟨bb, bo + i * 4 + 2, none⟩) XB.out.1).trans (XB.out.2 i hin 2 (by decide)), (h.cell (p := ⟨bb, bo + i * 4 + 3, none⟩) XB.out.1).trans (XB.out.2 i hin 3 (by decide))⟩
              have HXA : Hid (∀ w', Below wx.heap.size wx w' → w'.cell? ⟨ab, ao + i * 4, none⟩ = some (.int .u64 ((limb 0 va : Nat) : Int)) ∧ w'.cell? ⟨ab, ao + i * 4 + 1, none⟩ = some (.int .u64 ((limb 1 va : Nat) : Int)) ∧ w'.cell? ⟨ab, ao + i * 4 + 2, none⟩ = some (.int .u64 ((limb 2 va : Nat) : Int)) ∧ w'.cell? ⟨ab, ao + i * 4 + 3, none⟩ = some (.int .u64 ((limb 3 va : Nat) : Int))) := fun w' h => HCA.out w' (bStep hbx0 h)
              have HXD : Hid (∀ w', Below wx.heap.size wx w' → w'.cell? ⟨bb, bo + i * 4, none⟩ = some (.int .u64 ((limb 0 vd : Nat) : Int)) ∧ w'.cell? ⟨bb, bo + i * 4 + 1, none⟩ = some (.int .u64 ((limb 1 vd : Nat) : Int)) ∧ w'.cell? ⟨bb, bo + i * 4 + 2, none⟩ = some (.int .u64 ((limb 2 vd : Nat) : Int)) ∧ w'.cell? ⟨bb, bo + i * 4 + 3, none⟩ = some (.int .u64 ((limb 3 vd : Nat) : Int))) := fun w' h => HCD.out w' (bStep hbx0 h)
              have hbq : Below BZ w0 wx := hb.trans (hbi.mono lBr)
              have q12 := HBB.out.1.1.below hbq HBB.out.1.2
              have q13 := HBB.out.2.1.below hbq HBB.out.2.2
              have HIK : Hid (k2 ≤ i ∧ i < eF j) := ⟨hik, hlt2⟩
              clear eva evd evp evq evt evT evs evo evy evz hbx0 h2i
              go_upto_region 20 with fail
              refine wp_region_Z (fun w' => Below wx.heap.size wx w') 15 (by kernel_rfl) ?_
              obtain ⟨wD, hD⟩ : ∃ x : World, x = wx.drew := ⟨_, rfl⟩
              rw [← hD]
              have hp0_0 : Below wx.heap.size wx wD := by rw [hD]; exact (Below.refl _ _).drew
              have hlow0 : Below wx.heap.size wx wD := by rw [hD]; exact (Below.refl _ _).drew
              clear hD
              refine wpZ_take (i := 0) (v := .int .i64 si) 139 rfl rfl (by kernel_rfl) (by kernel_rfl) (by kernel_rfl) (Or.inl (by kernel_rfl)) (fun _ _ _ h => h) (Or.inl ⟨by rfl, fun w hSw => by go_simp⟩) hp0_0 ?_
              simp only [Act.put, List.setIfInBounds_toArray]
              dsimp only [List.set_cons_zero, List.set_cons_succ]
              refine wpZ_take (i := 1) (v := .agg #[.int .u64 ((limb 0 (vp) : Nat) : Int), .int .u64 ((limb 1 (vp) : Nat) : Int), .int .u64 ((limb 2 (vp) : Nat) : Int), .int .u64 ((limb 3 (vp) : Nat) : Int)]) 140 rfl rfl (by kernel_rfl) (by kernel_rfl) (by kernel_rfl) (Or.inl (by kernel_rfl)) (fun _ _ _ h => h) (Or.inl ⟨by rfl, fun w hSw => by (have qq := (q20.belowAll hSw).cell; clear hSw; go_simp)⟩) hp0_0 ?_
              simp only [Act.put, List.setIfInBounds_toArray]
              dsimp only [List.set_cons_zero, List.set_cons_succ]
              refine wpZ_take (i := 2) (v := .int .i64 si) 141 rfl rfl (by kernel_rfl) (by kernel_rfl) (by kernel_rfl) (Or.inl (by kernel_rfl)) (fun _ _ _ h => h) (Or.inl ⟨by rfl, fun w hSw => by go_simp⟩) hp0_0 ?_
              simp only [Act.put, List.setIfInBounds_toArray]
              dsimp only [List.set_cons_zero, List.set_cons_succ]
              refine wpZ_take (i := 3) (v := .slice (some ⟨ab, ao, none⟩) n ca) 142 rfl rfl (by kernel_rfl) (by kernel_rfl) (by kernel_rfl) (Or.inl (by kernel_rfl)) (fun _ _ _ h => h) (Or.inl ⟨by rfl, fun w hSw => by go_simp⟩) hp0_0 ?_
              simp only [Act.put, List.setIfInBounds_toArray]
              dsimp only [List.set_cons_zero, List.set_cons_succ]
              refine wpZ_take (i := 4) (v := .int .i64 (i : Int)) 143 rfl rfl (by kernel_rfl) (by kernel_rfl) (by kernel_rfl) (Or.inl (by kernel_rfl)) (fun _ _ _ h => h) (Or.inl ⟨by rfl, fun w hSw => by go_simp⟩) hp0_0 ?_
              simp only [Act.put, List.setIfInBounds_toArray]
              dsimp only [List.set_cons_zero, List.set_cons_succ]
              refine wpZ_take (i := 5) (v := .pointer (some ⟨ab, ao + i * 4, none⟩)) 144 rfl rfl (by kernel_rfl) (by kernel_rfl) (by kernel_rfl) (Or.inl (by kernel_rfl)) (fun _ _ _ h => h) (Or.inl ⟨by rfl, fun w hSw => by go_simp⟩) hp0_0 ?_
              simp only [Act.put, List.setIfInBounds_toArray]
              dsimp only [List.set_cons_zero, List.set_cons_succ]
              refine wpZ_take (i := 6) (v := .agg #[.int .u64 ((limb 0 (va) : Nat) : Int), .int .u64 ((limb 1 (va) : Nat) : Int), .int .u64 ((limb 2 (va) : Nat) : Int), .int .u64 ((limb 3 (va) : Nat) : Int)]) 145 rfl rfl (by kernel_rfl) (by kernel_rfl) (by kernel_rfl) (Or.inl (by kernel_rfl)) (fun _ _ _ h => h) (Or.inl ⟨by rfl, fun w hSw => by (obtain ⟨q0, q1, q2, q3⟩ := HXA.out w hSw; clear hSw; go_simp)⟩) hp0_0 ?_
              simp only [Act.put, List.setIfInBounds_toArray]
              dsimp only [List.set_cons_zero, List.set_cons_succ]
              refine wpZ_take (i := 7) (v := .agg #[.int .u64 ((limb 0 (be) : Nat) : Int), .int .u64 ((limb 1 (be) : Nat) : Int), .int .u64 ((limb 2 (be) : Nat) : Int), .int .u64 ((limb 3 (be) : Nat) : Int)]) 146 rfl rfl (by kernel_rfl) (by kernel_rfl) (by kernel_rfl) (Or.inl (by kernel_rfl)) (fun _ _ _ h => h) (Or.inl ⟨by rfl, fun w hSw => by (have qq := (q12.belowAll hSw).cell; clear hSw; go_simp)⟩) hp0_0 ?_
              simp only [Act.put, List.setIfInBounds_toArray]
              dsimp only [List.set_cons_zero, List.set_cons_succ]
              refine wpZ_take (i := 8) (v := .slice (some ⟨bb, bo, none⟩) n cb) 147 rfl rfl (by kernel_rfl) (by kernel_rfl) (by kernel_rfl) (Or.inl (by kernel_rfl)) (fun _ _ _ h => h) (Or.inl ⟨by rfl, fun w hSw => by go_simp⟩) hp0_0 ?_
              simp only [Act.put, List.setIfInBounds_toArray]
              dsimp only [List.set_cons_zero, List.set_cons_succ]
              refine wpZ_take (i := 9) (v := .int .i64 (i : Int)) 148 rfl rfl (by kernel_rfl) (by kernel_rfl) (by kernel_rfl) (Or.inl (by kernel_rfl)) (fun _ _ _ h => h) (Or.inl ⟨by rfl, fun w hSw => by go_simp⟩) hp0_0 ?_
              simp only [Act.put, List.setIfInBounds_toArray]
              dsimp only [List.set_cons_zero, List.set_cons_succ]
              refine wpZ_take (i := 10) (v := .pointer (some ⟨bb, bo + i * 4, none⟩)) 149 rfl rfl (by kernel_rfl) (by kernel_rfl) (by kernel_rfl) (Or.inl (by kernel_rfl)) (fun _ _ _ h => h) (Or.inl ⟨by rfl, fun w hSw => by go_simp⟩) hp0_0 ?_
              simp only [Act.put, List.setIfInBounds_toArray]
              dsimp only [List.set_cons_zero, List.set_cons_succ]
              refine wpZ_take (i := 11) (v := .agg #[.int .u64 ((limb 0 (vd) : Nat) : Int), .int .u64 ((limb 1 (vd) : Nat) : Int), .int .u64 ((limb 2 (vd) : Nat) : Int), .int .u64 ((limb 3 (vd) : Nat) : Int)]) 150 rfl rfl (by kernel_rfl) (by kernel_rfl) (by kernel_rfl) (Or.inl (by kernel_rfl)) (fun _ _ _ h => h) (Or.inl ⟨by rfl, fun w hSw => by (obtain ⟨q0, q1, q2, q3⟩ := HXD.out w hSw; clear hSw; go_simp)⟩) hp0_0 ?_
              simp only [Act.put, List.setIfInBounds_toArray]
              dsimp only [List.set_cons_zero, List.set_cons_succ]
              refine wpZ_take (i := 12) (v := .agg #[.int .u64 ((limb 0 (ga) : Nat) : Int), .int .u64 ((limb 1 (ga) : Nat) : Int), .int .u64 ((limb 2 (ga) : Nat) : Int), .int .u64 ((limb 3 (ga) : Nat) : Int)]) 151 rfl rfl (by kernel_rfl) (by kernel_rfl) (by kernel_rfl) (Or.inl (by kernel_rfl)) (fun _ _ _ h => h) (Or.inl ⟨by rfl, fun w hSw => by (have qq := (q13.belowAll hSw).cell; clear hSw; go_simp)⟩) hp0_0 ?_
              simp only [Act.put, List.setIfInBounds_toArray]
              dsimp only [List.set_cons_zero, List.set_cons_succ]
              refine wpZ_one (i := 13) (by kernel_rfl) rfl (fun K hK => ?_)
              go_simp
              refine (HTN.out wD).mono ?_
              rintro e wT1 ⟨rfl, hbT1⟩
              have hlowT1 := bStep hlow0 hbT1
              go_wp2_with fail
              refine hK.out _ _ (fun _ => hlowT1) ?_
              clear hK K hbT1
              refine wpZ_one (i := 14) (by kernel_rfl) rfl (fun K hK => ?_)
              go_simp
              refine (HPN.out wT1).mono ?_
              rintro e wT2 ⟨rfl, hbT2⟩
              have hlowT2 := bStep hlowT1 hbT2
              go_wp2_with fail
              refine hK.out _ _ (fun _ => hlowT2) ?_
              clear hK K hbT2
              refine wpZ_one (i := 15) (by kernel_rfl) rfl (fun K hK => ?_)
              have s5 := q20.belowAll hlowT2
              have k5 := s5.cell; have f5 := s5.frozen
              obtain ⟨w6, hw6, t20, hk6⟩ := s5.put4 vy
              go_simp
              refine hK.out _ _ (fun h => absurd rfl h) ?_
              clear hK K
              refine wpZ_done (by kernel_rfl) ?_ _
              have hb6 := bKept (bStep hbi hlowT2) lr20 hk6
              have t21 := (q21.belowAll hlowT2).kept (Ne.symm nn) hk6
              clear k5 f5 hk6 s5 hlowT2 q20 q21 q12 q13 hbi hbq HXA HXD HTN HPN
              have hbq : Below BZ w0 w6 := hb.trans (hb6.mono lBr)
              have q12 := HBB.out.1.1.below hbq HBB.out.1.2
              have q13 := HBB.out.2.1.below hbq HBB.out.2.2
              have p8 := HB8.out.1.below hbq HB8.out.2
              have HXA : Hid (∀ w', Below w6.heap.size w6 w' → w'.cell? ⟨ab, ao + i * 4, none⟩ = some (.int .u64 ((limb 0 va : Nat) : Int)) ∧ w'.cell? ⟨ab, ao + i * 4 + 1, none⟩ = some (.int .u64 ((limb 1 va : Nat) : Int)) ∧ w'.cell? ⟨ab, ao + i * 4 + 2, none⟩ = some (.int .u64 ((limb 2 va : Nat) : Int)) ∧ w'.cell? ⟨ab, ao + i * 4 + 3, none⟩ = some (.int .u64 ((limb 3 va : Nat) : Int))) := fun w' h => HCA.out w' (bStep (hbw.trans (hb6.mono hbw.size)) h)
              go_upto_region 21 with fail
              refine wp_region_Z (fun w' => Below w6.heap.size w6 w') 18 (by kernel_rfl) ?_
              obtain ⟨wD, hD⟩ : ∃ x : World, x = w6.drew := ⟨_, rfl⟩
              rw [← hD]
              have hp0_0 : Below w6.heap.size w6 wD := by rw [hD]; exact (Below.refl _ _).drew
              have hlow0 : Below w6.heap.size w6 wD := by rw [hD]; exact (Below.refl _ _).drew
              clear hD
              refine wpZ_take (i := 0) (v := .int .i64 si) 154 rfl rfl (by kernel_rfl) (by kernel_rfl) (by kernel_rfl) (Or.inl (by kernel_rfl)) (fun _ _ _ h => h) (Or.inl ⟨by rfl, fun w hSw => by go_simp⟩) hp0_0 ?_
              simp only [Act.put, List.setIfInBounds_toArray]
              dsimp only [List.set_cons_zero, List.set_cons_succ]
              refine wpZ_take (i := 1) (v := .agg #[.int .u64 ((limb 0 (vq) : Nat) : Int), .int .u64 ((limb 1 (vq) : Nat) : Int), .int .u64 ((limb 2 (vq) : Nat) : Int), .int .u64 ((limb 3 (vq) : Nat) : Int)]) 155 rfl rfl (by kernel_rfl) (by kernel_rfl) (by kernel_rfl) (Or.inl (by kernel_rfl)) (fun _ _ _ h => h) (Or.inl ⟨by rfl, fun w hSw => by (have qq := (t21.belowAll hSw).cell; clear hSw; go_simp)⟩) hp0_0 ?_
              simp only [Act.put, List.setIfInBounds_toArray]
              dsimp only [List.set_cons_zero, List.set_cons_succ]
              refine wpZ_take (i := 2) (v := .int .i64 si) 156 rfl rfl (by kernel_rfl) (by kernel_rfl) (by kernel_rfl) (Or.inl (by kernel_rfl)) (fun _ _ _ h => h) (Or.inl ⟨by rfl, fun w hSw => by go_simp⟩) hp0_0 ?_
              simp only [Act.put, List.setIfInBounds_toArray]
              dsimp only [List.set_cons_zero, List.set_cons_succ]
              refine wpZ_take (i := 3) (v := .slice (some ⟨ab, ao, none⟩) n ca) 157 rfl rfl (by kernel_rfl) (by kernel_rfl) (by kernel_rfl) (Or.inl (by kernel_rfl)) (fun _ _ _ h => h) (Or.inl ⟨by rfl, fun w hSw => by go_simp⟩) hp0_0 ?_
              simp only [Act.put, List.setIfInBounds_toArray]
              dsimp only [List.set_cons_zero, List.set_cons_succ]
              refine wpZ_take (i := 4) (v := .int .i64 (i : Int)) 158 rfl rfl (by kernel_rfl) (by kernel_rfl) (by kernel_rfl) (Or.inl (by kernel_rfl)) (fun _ _ _ h => h) (Or.inl ⟨by rfl, fun w hSw => by go_simp⟩) hp0_0 ?_
              simp only [Act.put, List.setIfInBounds_toArray]
              dsimp only [List.set_cons_zero, List.set_cons_succ]
              refine wpZ_take (i := 5) (v := .pointer (some ⟨ab, ao + i * 4, none⟩)) 159 rfl rfl (by kernel_rfl) (by kernel_rfl) (by kernel_rfl) (Or.inl (by kernel_rfl)) (fun _ _ _ h => h) (Or.inl ⟨by rfl, fun w hSw => by go_simp⟩) hp0_0 ?_
              simp only [Act.put, List.setIfInBounds_toArray]
              dsimp only [List.set_cons_zero, List.set_cons_succ]
              refine wpZ_take (i := 6) (v := .agg #[.int .u64 ((limb 0 (va) : Nat) : Int), .int .u64 ((limb 1 (va) : Nat) : Int), .int .u64 ((limb 2 (va) : Nat) : Int), .int .u64 ((limb 3 (va) : Nat) : Int)]) 160 rfl rfl (by kernel_rfl) (by kernel_rfl) (by kernel_rfl) (Or.inl (by kernel_rfl)) (fun _ _ _ h => h) (Or.inl ⟨by rfl, fun w hSw => by (obtain ⟨q0, q1, q2, q3⟩ := HXA.out w hSw; clear hSw; go_simp)⟩) hp0_0 ?_
              simp only [Act.put, List.setIfInBounds_toArray]
              dsimp only [List.set_cons_zero, List.set_cons_succ]
              refine wpZ_take (i := 7) (v := .agg #[.int .u64 ((limb 0 (be) : Nat) : Int), .int .u64 ((limb 1 (be) : Nat) : Int), .int .u64 ((limb 2 (be) : Nat) : Int), .int .u64 ((limb 3 (be) : Nat) : Int)]) 161 rfl rfl (by kernel_rfl) (by kernel_rfl) (by kernel_rfl) (Or.inl (by kernel_rfl)) (fun _ _ _ h => h) (Or.inl ⟨by rfl, fun w hSw => by (have qq := (q12.belowAll hSw).cell; clear hSw; go_simp)⟩) hp0_0 ?_
              simp only [Act.put, List.setIfInBounds_toArray]
              dsimp only [List.set_cons_zero, List.set_cons_succ]
              refine wpZ_take (i := 8) (v := .int .i64 si) 162 rfl rfl (by kernel_rfl) (by kernel_rfl) (by kernel_rfl) (Or.inl (by kernel_rfl)) (fun _ _ _ h => h) (Or.inl ⟨by rfl, fun w hSw => by go_simp⟩) hp0_0 ?_
              simp only [Act.put, List.setIfInBounds_toArray]
              dsimp only [List.set_cons_zero, List.set_cons_succ]
              refine wpZ_take (i := 9) (v := .int .i64 si) 163 rfl rfl (by kernel_rfl) (by kernel_rfl) (by kernel_rfl) (Or.inl (by kernel_rfl)) (fun _ _ _ h => h) (Or.inl ⟨by rfl, fun w hSw => by go_simp⟩) hp0_0 ?_
              simp only [Act.put, List.setIfInBounds_toArray]
              dsimp only [List.set_cons_zero, List.set_cons_succ]
              refine wpZ_take (i := 10) (v := .int .i64 (i : Int)) 164 rfl rfl (by kernel_rfl) (by kernel_rfl) (by kernel_rfl) (Or.inl (by kernel_rfl)) (fun _ _ _ h => h) (Or.inl ⟨by rfl, fun w hSw => by go_simp⟩) hp0_0 ?_
              simp only [Act.put, List.setIfInBounds_toArray]
              dsimp only [List.set_cons_zero, List.set_cons_succ]
              refine wpZ_take (i := 12) (v := .pointer (some ⟨N8, 0, none⟩)) 166 rfl rfl (by kernel_rfl) (by kernel_rfl) (by kernel_rfl) (Or.inl (by kernel_rfl)) (fun _ _ _ h => h) (Or.inl ⟨by rfl, fun w hSw => by go_simp⟩) hp0_0 ?_
              simp only [Act.put, List.setIfInBounds_toArray]
              dsimp only [List.set_cons_zero, List.set_cons_succ]
              refine wpZ_take (i := 13) (v := .agg #[.int .u64 ((limb 0 (x) : Nat) : Int), .int .u64 ((limb 1 (x) : Nat) : Int), .int .u64 ((limb 2 (x) : Nat) : Int), .int .u64 ((limb 3 (x) : Nat) : Int)]) 167 rfl rfl (by kernel_rfl) (by kernel_rfl) (by kernel_rfl) (Or.inl (by kernel_rfl)) (fun _ _ _ h => h) (Or.inl ⟨by rfl, fun w hSw => by (obtain ⟨q0, q1, q2, q3⟩ : w.cell? ⟨N8, 0, none⟩ = _ ∧ w.cell? ⟨N8, 1, none⟩ = _ ∧ w.cell? ⟨N8, 2, none⟩ = _ ∧ w.cell? ⟨N8, 3, none⟩ = _ := (p8.belowAll hSw).el XS.out.2.1; clear hSw; go_simp)⟩) hp0_0 ?_
              simp only [Act.put, List.setIfInBounds_toArray]
              dsimp only [List.set_cons_zero, List.set_cons_succ]
              refine wpZ_take (i := 15) (v := .agg #[.int .u64 ((limb 0 (ga) : Nat) : Int), .int .u64 ((limb 1 (ga) : Nat) : Int), .int .u64 ((limb 2 (ga) : Nat) : Int), .int .u64 ((limb 3 (ga) : Nat) : Int)]) 169 rfl rfl (by kernel_rfl) (by kernel_rfl) (by kernel_rfl) (Or.inl (by kernel_rfl)) (fun _ _ _ h => h) (Or.inl ⟨by rfl, fun w hSw => by (have qq := (q13.belowAll hSw).cell; clear hSw; go_simp)⟩) hp0_0 ?_
              simp only [Act.put, List.setIfInBounds_toArray]
              dsimp only [List.set_cons_zero, List.set_cons_succ]
              refine wpZ_one (i := 11) (by kernel_rfl) rfl (fun K hK => ?_)
              go_simp
              refine (HSH.out wD).mono ?_
              rintro e wT1 ⟨rfl, hbT1⟩
              have hlowT1 := bStep hlow0 hbT1
              go_wp2_with fail
              refine hK.out _ _ (fun _ => hlowT1) ?_
              clear hK K hbT1
              refine wpZ_one (i := 14) (by kernel_rfl) rfl (fun K hK => ?_)
              go_simp
              refine (HMO.out wT1).mono ?_
              rintro e wT2 ⟨rfl, hbT2⟩
              have hlowT2 := bStep hlowT1 hbT2
              go_wp2_with fail
              refine hK.out _ _ (fun _ => hlowT2) ?_
              clear hK K hbT2
              refine wpZ_one (i := 16) (by kernel_rfl) rfl (fun K hK => ?_)
              go_simp
              refine (HTO.out wT2).mono ?_
              rintro e wT3 ⟨rfl, hbT3⟩
              have hlowT3 := bStep hlowT2 hbT3
              go_wp2_with fail
              refine hK.out _ _ (fun _ => hlowT3) ?_
              clear hK K hbT3
              refine wpZ_one (i := 17) (by kernel_rfl) rfl (fun K hK => ?_)
              go_simp
              refine (HPO.out wT3).mono ?_
              rintro e wT4 ⟨rfl, hbT4⟩
              have hlowT4 := bStep hlowT3 hbT4
              go_wp2_with fail
              refine hK.out _ _ (fun _ => hlowT4) ?_
              clear hK K hbT4
              refine wpZ_one (i := 18) (by kernel_rfl) rfl (fun K hK => ?_)
              have s5 := t21.belowAll hlowT4
              have k5 := s5.cell; have f5 := s5.frozen
              obtain ⟨w7, hw7, z21, hk7⟩ := s5.put4 vz
              go_simp
              refine hK.out _ _ (fun h => absurd rfl h) ?_
              clear hK K
              refine wpZ_done (by kernel_rfl) ?_ _
              have hb7 := bKept (bStep hb6 hlowT4) lr21 hk7
              have z20 := (t20.belowAll hlowT4).kept nn hk7
              rw [HVY.out.1] at z20
              rw [HVY.out.2] at z21
              clear k5 f5 hk7 s5 hlowT4 t20 t21 q12 q13 p8 hb6 hbq HXA HCA HCD HTO HSH HMO HPO
              go_wp2
              go_roundw
              case measure => simp [intOf]; omega
              case rel => exact ⟨i + 1, by go_num, by omega, by omega, hb7, z20, z21⟩
            · have hij : ¬ (i : Int) < ((eF j : Nat) : Int) := by omega
              obtain rfl : i = eF j := by omega
              obtain ⟨L, eL⟩ : ∃ L, L = zL jp (m - 1) ++ [q3] ++ (List.range j).map st := ⟨_, rfl⟩
              have HL : Hid (L.length = m - 1 + 2 + j ∧ zL jp (m - 1) ++ [q3] ++ (List.range (j + 1)).map st = L ++ [st j]) := by
                rw [eL]
                refine ⟨by simp [zL_len]; omega, ?_⟩
                rw [List.range_succ, List.map_append, List.append_assoc, List.append_assoc, List.append_assoc]
                rfl
              rw [← eL] at own
              clear eL
              have hL9 : L.length ≤ 2002 := by have := HL.out.1; have := XM.out.2.1; omega
              rcases own.2 with ⟨_, h0⟩ | ⟨lb, cap, cur, rfl, hbz, hgz, hcp, hcm, hcs, htk⟩
              · exact absurd h0 (by have := HL.out.1; omega)
              have llb : lb < wq.heap.size := (Array.getElem?_eq_some_iff.1 hgz).1
              clear hgz hcs htk
              have l8B := HB8.out.2
              have ne0 : lb ≠ N8 := by omega
              have ne1 : lb ≠ N20 := by omega
              have ne2 : lb ≠ N21 := by omega
              have HSF : Hid (∀ w, _) := Xsf.out j hlt
              have HST : Hid (∀ w, _) := Xst.out j hlt
              obtain ⟨u, eu⟩ : ∃ u, u = pN j (eF j) := ⟨_, rfl⟩
              obtain ⟨v, ev⟩ : ∃ v, v = pO j (eF j) := ⟨_, rfl⟩
              obtain ⟨d, ed⟩ : ∃ d, d = df j := ⟨_, rfl⟩
              obtain ⟨y, ey⟩ : ∃ y, y = st j := ⟨_, rfl⟩
              rw [← eu] at q20 HSF
              rw [← ev] at q21 HSF
              rw [← ed] at HSF HST
              rw [← ey] at HST HL
              have hba : Below BZ w0 wx := hb.trans (hbi.mono lBr)
              have lBa : BZ ≤ wx.heap.size := Nat.le_trans lBr hbi.size
              have p8 := HB8.out.1.below hba HB8.out.2
              have G0 : Rd4 wx N8 12 us := p8.el XS.out.2.2.2.2
              have G1 : Rd4 wx N20 0 u := by have c := q20.cell; exact ⟨c 0 (by decide), c 1 (by decide), c 2 (by decide), c 3 (by decide)⟩
              have G2 : Rd4 wx N21 0 v := by have c := q21.cell; exact ⟨c 0 (by decide), c 1 (by decide), c 2 (by decide), c 3 (by decide)⟩
              have gl0 : N8 < wx.heap.size := p8.lt
              have gl1 : N20 < wx.heap.size := q20.lt
              have gl2 : N21 < wx.heap.size := q21.lt
              have own5 := own.below hbi
              clear eu ev ed ey own hbi hb lBr p8 q20 q21 llb hbz hkw hik hie
              go_upto_region 22 with fail
              refine wp_region_Z (fun w' => Rd4 w' N8 12 us ∧ Rd4 w' N20 0 u ∧ Rd4 w' N21 0 v) 99 (by kernel_rfl) ?_
              obtain ⟨wD, hD⟩ : ∃ z : World, z = wx.drew := ⟨_, rfl⟩
              rw [← hD]
              have lowD : Below wx.heap.size wx wD := by rw [hD]; exact (Below.refl _ _).drew
              clear hD
              have HS0 : Rd4 wD N8 12 us ∧ Rd4 wD N20 0 u ∧ Rd4 wD N21 0 v := ⟨G0.below lowD gl0, G1.below lowD gl1, G2.below lowD gl2⟩
              refine wpZ_take (i := 0) (v := .slice (some ⟨lb, 0, none⟩) L.length cap) 172 rfl rfl (by kernel_rfl) (by kernel_rfl) (by kernel_rfl) (Or.inr (by decide)) (fun _ _ _ h => h) (Or.inl ⟨by rfl, fun w hSw => by go_simp⟩) HS0 ?_
              simp only [Act.put, List.setIfInBounds_toArray]
              try dsimp only [List.set_cons_zero, List.set_cons_succ]
              refine wpZ_take (i := 1) (v := .int .i64 si) 173 rfl rfl (by kernel_rfl) (by kernel_rfl) (by kernel_rfl) (Or.inr (by decide)) (fun _ _ _ h => h) (Or.inl ⟨by rfl, fun w hSw => by go_simp⟩) HS0 ?_
              simp only [Act.put, List.setIfInBounds_toArray]
              try dsimp only [List.set_cons_zero, List.set_cons_succ]
              refine wpZ_take (i := 2) (v := .pointer (some ⟨N8, 12, none⟩)) 174 rfl rfl (by kernel_rfl) (by kernel_rfl) (by kernel_rfl) (Or.inr (by decide)) (fun _ _ _ h => h) (Or.inl ⟨by rfl, fun w hSw => by go_simp⟩) HS0 ?_
              simp only [Act.put, List.setIfInBounds_toArray]
              try dsimp only [List.set_cons_zero, List.set_cons_succ]
              refine wpZ_take (i := 3) (v := .agg #[.int .u64 ((limb 0 (us) : Nat) : Int), .int .u64 ((limb 1 (us) : Nat) : Int), .int .u64 ((limb 2 (us) : Nat) : Int), .int .u64 ((limb 3 (us) : Nat) : Int)]) 175 rfl rfl (by kernel_rfl) (by kernel_rfl) (by kernel_rfl) (Or.inr (by decide)) (fun _ _ _ h => h) (Or.inl ⟨by rfl, fun w hSw => by (obtain ⟨q0, q1, q2, q3⟩ : w.cell? ⟨N8, 12, none⟩ = _ ∧ w.cell? ⟨N8, 13, none⟩ = _ ∧ w.cell? ⟨N8, 14, none⟩ = _ ∧ w.cell? ⟨N8, 15, none⟩ = _ := hSw.1; clear hSw; go_simp)⟩) HS0 ?_
              simp only [Act.put, List.setIfInBounds_toArray]
              try dsimp only [List.set_cons_zero, List.set_cons_succ]
              refine wpZ_take (i := 4) (v := .int .i64 si) 176 rfl rfl (by kernel_rfl) (by kernel_rfl) (by kernel_rfl) (Or.inr (by decide)) (fun _ _ _ h => h) (Or.inl ⟨by rfl, fun w hSw => by go_simp⟩) HS0 ?_
              simp only [Act.put, List.setIfInBounds_toArray]
              try dsimp only [List.set_cons_zero, List.set_cons_succ]
              refine wpZ_take (i := 5) (v := .agg #[.int .u64 ((limb 0 (u) : Nat) : Int), .int .u64 ((limb 1 (u) : Nat) : Int), .int .u64 ((limb 2 (u) : Nat) : Int), .int .u64 ((limb 3 (u) : Nat) : Int)]) 177 rfl rfl (by kernel_rfl) (by kernel_rfl) (by kernel_rfl) (Or.inr (by decide)) (fun _ _ _ h => h) (Or.inl ⟨by rfl, fun w hSw => by (obtain ⟨q0, q1, q2, q3⟩ : w.cell? ⟨N20, 0, none⟩ = _ ∧ w.cell? ⟨N20, 1, none⟩ = _ ∧ w.cell? ⟨N20, 2, none⟩ = _ ∧ w.cell? ⟨N20, 3, none⟩ = _ := hSw.2.1; clear hSw; go_simp)⟩) HS0 ?_
              simp only [Act.put, List.setIfInBounds_toArray]
              try dsimp only [List.set_cons_zero, List.set_cons_succ]
              refine wpZ_take (i := 6) (v := .agg #[.int .u64 ((limb 0 (v) : Nat) : Int), .int .u64 ((limb 1 (v) : Nat) : Int), .int .u64 ((limb 2 (v) : Nat) : Int), .int .u64 ((limb 3 (v) : Nat) : Int)]) 178 rfl rfl (by kernel_rfl) (by kernel_rfl) (by kernel_rfl) (Or.inr (by decide)) (fun _ _ _ h => h) (Or.inl ⟨by rfl, fun w hSw => by (obtain ⟨q0, q1, q2, q3⟩ : w.cell? ⟨N21, 0, none⟩ = _ ∧ w.cell? ⟨N21, 1, none⟩ = _ ∧ w.cell? ⟨N21, 2, none⟩ = _ ∧ w.cell? ⟨N21, 3, none⟩ = _ := hSw.2.2; clear hSw; go_simp)⟩) HS0 ?_
              simp only [Act.put, List.setIfInBounds_toArray]
              try dsimp only [List.set_cons_zero, List.set_cons_succ]
              refine wpZ_one (i := 7) (by kernel_rfl) rfl (fun K hK => ?_)
              go_simp
              refine (HSF.out wD).mono ?_
              rintro e wE1 ⟨rfl, hbx1⟩
              have lowwE1 := bStep lowD hbx1
              have SwE1 : Rd4 wE1 N8 12 us ∧ Rd4 wE1 N20 0 u ∧ Rd4 wE1 N21 0 v := ⟨G0.below lowwE1 gl0, G1.below lowwE1 gl1, G2.below lowwE1 gl2⟩
              go_wp2_with fail
              refine hK.out _ _ (fun _ => SwE1) ?_
              clear hK K hbx1
              refine wpZ_one (i := 8) (by kernel_rfl) rfl (fun K hK => ?_)
              go_simp
              refine (HST.out wE1).mono ?_
              rintro e wE2 ⟨rfl, hbx2⟩
              have lowwE2 := bStep lowwE1 hbx2
              have SwE2 : Rd4 wE2 N8 12 us ∧ Rd4 wE2 N20 0 u ∧ Rd4 wE2 N21 0 v := ⟨G0.below lowwE2 gl0, G1.below lowwE2 gl1, G2.below lowwE2 gl2⟩
              go_wp2_with fail
              refine hK.out _ _ (fun _ => SwE2) ?_
              clear hK K hbx2
              refine wpZ_one (i := 9) (by kernel_rfl) rfl (fun K hK => ?_)
              go_simp
              have ownF := own5.below lowwE2
              obtain ⟨wG, hwG⟩ : ∃ z : World, z = wE2.alloc (.cells #[.int .u64 ((limb 0 y : Nat) : Int), .int .u64 ((limb 1 y : Nat) : Int), .int .u64 ((limb 2 y : Nat) : Int), .int .u64 ((limb 3 y : Nat) : Int)] 24) := ⟨_, rfl⟩
              obtain ⟨NF, eF⟩ : ∃ z, z = wE2.heap.size := ⟨_, rfl⟩
              have bF : Blk wG 24 NF (fun i => limb i y) := by rw [hwG]; exact Blk.newAt _ _ _ (fun i => limb i y) eF
              have hbG : Below wE2.heap.size wE2 wG := by rw [hwG]; exact bAlloc (Below.refl _ _) _
              have lowG := bStep lowwE2 hbG
              have ownG := ownF.below hbG
              have SG : Rd4 wG N8 12 us ∧ Rd4 wG N20 0 u ∧ Rd4 wG N21 0 v := ⟨G0.below lowG gl0, G1.below lowG gl1, G2.below lowG gl2⟩
              rw [← hwG, ← eF]
              refine hK.out _ _ (fun _ => SG) ?_
              clear hK K hwG eF hbG ownF
              have cF := bF.cell
              have lBG : BZ ≤ wG.heap.size := Nat.le_trans lBa lowG.size
              have lG0 : N8 < wG.heap.size := Nat.lt_of_lt_of_le gl0 lowG.size
              have lG1 : N20 < wG.heap.size := Nat.lt_of_lt_of_le gl1 lowG.size
              have lG2 : N21 < wG.heap.size := Nat.lt_of_lt_of_le gl2 lowG.size
              refine wpZ_one (i := 10) (by kernel_rfl) rfl (fun K hK => ?_)
              rw [if_pos (show Region.wanted _ _ = true from rfl)]
              refine wp_append_keep wG _ _ 32 rfl BZ 24 i0 (.agg #[.int .u64 0, .int .u64 0, .int .u64 0, .int .u64 0]) 4 32 Tryd.underlying32 HI.out HZ.out.1 HZ.out.2.1 HZ.out.2.2 rfl (by decide) _ L.length (els (fun i => L.getD i 0) L.length) rfl ownG ⟨NF, 0, none⟩ 1 1 [.int .u64 ((limb 0 y : Nat) : Int), .int .u64 ((limb 1 y : Nat) : Int), .int .u64 ((limb 2 y : Nat) : Int), .int .u64 ((limb 3 y : Nat) : Int)] rfl rfl ?c1 ?c2 ?c3 ?c4 lBG ?_
              case c1 =>
                intro q u hu
                have hadd : (⟨NF, 0, none⟩ : Addr).add q = ⟨NF, q, none⟩ := by unfold Addr.add; split <;> simp_all
                rw [hadd]
                match q, hu with
                | 0, hu => simp at hu; subst hu; exact cF 0 (by decide)
                | 1, hu => simp at hu; subst hu; exact cF 1 (by decide)
                | 2, hu => simp at hu; subst hu; exact cF 2 (by decide)
                | 3, hu => simp at hu; subst hu; exact cF 3 (by decide)
                | q + 4, hu => simp at hu
              case c2 => first | exact ⟨rfl, rfl, rfl, rfl⟩ | (intro u hu; simp at hu; rcases hu with rfl | rfl | rfl | rfl <;> rfl)
              case c3 => unfold maxLen; omega
              case c4 => omega
              intro v6 wH own6' hgr6 hkp
              have own6 := OwnL.push own6'
              have S6 : Rd4 wH N8 12 us ∧ Rd4 wH N20 0 u ∧ Rd4 wH N21 0 v := ⟨SG.1.same (hgr6.block N8 lG0 (fun h => (ne0) (Option.some.inj h).symm)), SG.2.1.same (hgr6.block N20 lG1 (fun h => (ne1) (Option.some.inj h).symm)), SG.2.2.same (hgr6.block N21 lG2 (fun h => (ne2) (Option.some.inj h).symm))⟩
              have hbGH : Below BZ wG wH := (Below.refl BZ wG).grown hgr6 lBG (fun q hq => own_block_geE ownG hq)
              have hbG2 : Below BZ w0 wG := hba.trans (lowG.mono lBa)
              have hbH : Below BZ w0 wH := hbG2.trans hbGH
              have lBH : BZ ≤ wH.heap.size := Nat.le_trans lBG hbGH.size
              have HOH : Hid (OwnL wH BZ v6 (zL jp (m - 1) ++ [q3] ++ (List.range (j + 1)).map st)) := by show OwnL _ _ _ _; rw [HL.out.2]; exact own6
              refine hK.out _ _ (fun _ => S6) ?_
              clear hK K own6' hgr6 hkp own6 ownG SG hbGH own5 hba hbG2
              refine wpZ_take (i := 11) (v := v6) 15 rfl rfl (by kernel_rfl) (by kernel_rfl) (by kernel_rfl) (Or.inr (by decide)) (fun _ _ _ h => h) (Or.inl ⟨by rfl, fun w hSw => by go_simp⟩) S6 ?_
              simp only [Act.put, List.setIfInBounds_toArray]
              try dsimp only [List.set_cons_zero, List.set_cons_succ]
              refine wpZ_done (by kernel_rfl) ?_ _
              go_wp2
              go_roundw
              case measure => simp [intOf]; omega
              case rel => exact ⟨j + 1, by go_num, by omega, HOH.out, hbH, lBH⟩
        · have hjm : ¬ (j : Int) < (m : Int) := by omega
          obtain rfl : j = m := by omega
          go_wp2
          refine bodyPost_ret (v := u15) (by simp [results, Tryd.results12, go_sem]) rfl ⟨⟨u15, rfl, ?_⟩, hbw⟩
          have h := ownL_base own HBW.out.2
          rw [List.append_assoc, List.singleton_append] at h
          exact h
end Go.Proofs.YtmbfkflgpdkphaaDoor
