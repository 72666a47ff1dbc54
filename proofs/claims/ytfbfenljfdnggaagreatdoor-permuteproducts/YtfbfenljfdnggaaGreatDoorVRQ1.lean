/- The reference's Products where all fits. -/
import Derived.Test.YtfbfenljfdnggaaGreatDoorVRP2
import Derived.Test.YtfbfenljfdnggaaGreatDoorVPC6
import Derived.Test.YtfbfenljfdnggaaGreatDoorVW9
namespace Go.Proofs.YtfbfenljfdnggaaGreatDoor
open Go.RowKit
theorem eqlE2 (X Y : Nat) (hX : X < 115792089237316195423570985008687907853269984665640564039457584007913129639936) (hY : Y < 115792089237316195423570985008687907853269984665640564039457584007913129639936) (w : World) : (binOp .eql 25 (.agg #[.int .u64 ((limb 0 (X) : Nat) : Int), .int .u64 ((limb 1 (X) : Nat) : Int), .int .u64 ((limb 2 (X) : Nat) : Int), .int .u64 ((limb 3 (X) : Nat) : Int)]) (.agg #[.int .u64 ((limb 0 (Y) : Nat) : Int), .int .u64 ((limb 1 (Y) : Nat) : Int), .int .u64 ((limb 2 (Y) : Nat) : Int), .int .u64 ((limb 3 (Y) : Nat) : Int)])).run Tryz.prog w = .ok (.bool (decide (X = Y))) w := by
  rw [run_eql_struct, eq4_in, eq4N X Y hX hY]; rfl
theorem zEq : (.agg #[.int .u64 ((limb 0 (0) : Nat) : Int), .int .u64 ((limb 1 (0) : Nat) : Int), .int .u64 ((limb 2 (0) : Nat) : Int), .int .u64 ((limb 3 (0) : Nat) : Int)] : Value) = .agg #[.int .u64 0, .int .u64 0, .int .u64 0, .int .u64 0] := by
  have h0 : limb 0 0 = 0 := by decide
  have h1 : limb 1 0 = 0 := by decide
  have h2 : limb 2 0 = 0 := by decide
  have h3 : limb 3 0 = 0 := by decide
  rw [h0, h1, h2, h3]; rfl
/-- How long a list is. -/
def lenQ : Value → Nat
  | .slice _ n _ => n
  | _ => 0
/-- The first k + 1 of a row of numbers. -/
def zR (Z : Nat → Nat) (k : Nat) : List Nat := (List.range (k + 1)).map Z
theorem zR_succ (Z : Nat → Nat) (k : Nat) : zR Z (k + 1) = zR Z k ++ [Z (k + 1)] := by unfold zR; rw [List.range_succ, List.map_append]; rfl
theorem zR_len (Z : Nat → Nat) (k : Nat) : (zR Z k).length = k + 1 := by unfold zR; simp
theorem zR_at (Z : Nat → Nat) (k : Nat) : (zR Z k).getD k 0 = Z k := by unfold zR; simp [List.getD_eq_getElem?_getD]
theorem OwnL.lenQ {w : World} {base : Nat} {v : Value} {l : List Nat} (h : OwnL w base v l) (h0 : l.length ≠ 0) : lenQ v = l.length := by
  rcases h.es with ⟨_, h1⟩ | ⟨b, o, c, rfl, _⟩
  · exact absurd h1 h0
  · rfl
theorem elsInfo : ∃ i : TypeInfo, Tryz.prog.info? 26 = some i ∧ i.zero = some (.slice none 0 0) ∧ i.size = 1 ∧ i.bytes = 24 := by
  match h : Tryz.prog.info? 26 with
  | some i => exact ⟨i, rfl, by have e : (Tryz.prog.info? 26).bind (·.zero) = some (.slice none 0 0) := by kernel_rfl
                                rw [h] at e; exact e, by have e : (Tryz.prog.info? 26).map (·.size) = some 1 := by kernel_rfl
                                                         rw [h] at e; exact Option.some.inj e, by have e : (Tryz.prog.info? 26).map (·.bytes) = some 24 := by kernel_rfl
                                                                                                  rw [h] at e; exact Option.some.inj e⟩
  | none => have e : (Tryz.prog.info? 26).map (·.size) = some 1 := by kernel_rfl
            rw [h] at e; cases e
theorem own_sameG {w w' : World} {base n s : Nat} {t : TypeId} {v : Value} {xs : List Value} (h : w.ownsRow base t s v n xs) (hs : ∀ k, v.ownBlock = some k → w'.heap[k]? = w.heap[k]?) : w'.ownsRow base t s v n xs := by
  refine ⟨h.1, ?_⟩
  rcases h.2 with hn | ⟨g, cap, cur, hL, hb, hg, rest⟩
  · exact Or.inl hn
  · exact Or.inr ⟨g, cap, cur, hL, hb, by rw [hs g (by rw [hL]; rfl)]; exact hg, rest⟩
theorem own_baseG {w : World} {base b2 n s : Nat} {t : TypeId} {v : Value} {xs : List Value} (h : w.ownsRow b2 t s v n xs) (hb : base ≤ b2) : w.ownsRow base t s v n xs := by
  obtain ⟨h1, h2⟩ := h
  refine ⟨h1, ?_⟩
  rcases h2 with h2 | ⟨g, c, cur, e1, e2, e3⟩
  · exact Or.inl h2
  · exact Or.inr ⟨g, c, cur, e1, Nat.le_trans hb e2, e3⟩
theorem own_hasG {w : World} {base n s : Nat} {t : TypeId} {v : Value} {xs : List Value} (h : w.ownsRow base t s v n xs) (hn : n ≠ 0) : ∃ k, v.ownBlock = some k := by
  rcases h.2 with ⟨_, h0⟩ | ⟨g, cap, cur, hL, _⟩
  · exact absurd h0 hn
  · exact ⟨g, by rw [hL]; rfl⟩
theorem map_upd (zs : Nat → Value) (j : Nat) (z : Value) : (List.range (j + 1)).map (fun i => if i = j then z else zs i) = (List.range j).map zs ++ [z] := by
  rw [List.range_succ, List.map_append]
  congr 1
  · refine List.map_congr_left (fun i hi => ?_)
    have := List.mem_range.1 hi
    rw [if_neg (by omega)]
  · simp
/-- All below a place is kept, but two blocks. -/
def KX (base a b : Nat) (w w' : World) : Prop := w'.os = w.os ∧ w'.tape = w.tape ∧ w'.output = w.output ∧ w.heap.size ≤ w'.heap.size ∧ ∀ k, k < base → k ≠ a → k ≠ b → w'.heap[k]? = w.heap[k]?
section
variable {base a b : Nat} {w x y : World}
theorem KX.refl (w : World) : KX base a b w w := ⟨rfl, rfl, rfl, Nat.le_refl _, fun _ _ _ _ => rfl⟩
theorem KX.below (h : KX base a b w x) (hk : Below base x y) : KX base a b w y :=
  ⟨hk.os.trans h.1, hk.tape.trans h.2.1, hk.output.trans h.2.2.1, Nat.le_trans h.2.2.2.1 hk.size, fun k hb h1 h2 => (hk.block k hb).trans (h.2.2.2.2 k hb h1 h2)⟩
theorem KX.kept1 (h : KX base a b w x) (hl : base ≤ w.heap.size) (hk : Kept a x y) : KX base a b w y :=
  ⟨hk.os.trans h.1, hk.tape.trans h.2.1, hk.output.trans h.2.2.1, Nat.le_trans h.2.2.2.1 hk.size, fun k hb h1 h2 => (hk.block k (by have := h.2.2.2.1; omega) h1).trans (h.2.2.2.2 k hb h1 h2)⟩
theorem KX.kept2 (h : KX base a b w x) (hl : base ≤ w.heap.size) (hk : Kept b x y) : KX base a b w y :=
  ⟨hk.os.trans h.1, hk.tape.trans h.2.1, hk.output.trans h.2.2.1, Nat.le_trans h.2.2.2.1 hk.size, fun k hb h1 h2 => (hk.block k (by have := h.2.2.2.1; omega) h2).trans (h.2.2.2.2 k hb h1 h2)⟩
theorem KX.low (h : KX base a b w x) {m : Nat} (hm : m ≤ base) (ha : m ≤ a) (hb : m ≤ b) : Below m w x := ⟨h.1, h.2.1, h.2.2.1, h.2.2.2.1, fun k hk => h.2.2.2.2 k (by omega) (by omega) (by omega)⟩
end
/-- What stays over the chunks. -/
def RpEnv (w1 w : World) (N13 N14 N22 pg po P : Nat) (pt : Nat → Nat) : Prop := Below N13 w1 w ∧ Lay w 37 N14 #[.slice none 0 0, .int .i64 0] ∧ (pg < w.heap.size ∧ ∀ i, i < P → ∀ l, l < 4 → w.cell? ⟨pg, po + i * 4 + l, none⟩ = some (.int .u64 ((limb l (pt i) : Nat) : Int))) ∧ Blk w 25 N22 (fun _ => 0)
theorem cell_same {w w' : World} {b o : Nat} (h : w'.heap[b]? = w.heap[b]?) : w'.cell? ⟨b, o, none⟩ = w.cell? ⟨b, o, none⟩ := by simp only [World.cell?, h]
theorem RpEnv.same {w1 w w' : World} {N13 N14 N22 pg po P : Nat} {pt : Nat → Nat} (h : RpEnv w1 w N13 N14 N22 pg po P pt) (hb : Below N13 w w') (h14 : w'.heap[N14]? = w.heap[N14]?) (hpg : w'.heap[pg]? = w.heap[pg]?) (h22 : w'.heap[N22]? = w.heap[N22]?) : RpEnv w1 w' N13 N14 N22 pg po P pt := by
  obtain ⟨a1, a2, ⟨a3, a4⟩, a5⟩ := h
  refine ⟨a1.trans hb, ?_, ⟨Nat.lt_of_lt_of_le a3 hb.size, fun i hi l hl => (cell_same hpg).trans (a4 i hi l hl)⟩, ?_⟩
  · unfold Lay at a2 ⊢; rw [h14]; exact a2
  · unfold Blk at a5 ⊢; rw [h22]; exact a5
theorem RpEnv.below {w1 w w' : World} {N13 N14 N22 pg po P : Nat} {pt : Nat → Nat} (h : RpEnv w1 w N13 N14 N22 pg po P pt) (hl : N13 ≤ w.heap.size) (hb : Below w.heap.size w w') : RpEnv w1 w' N13 N14 N22 pg po P pt :=
  h.same (hb.mono hl) (hb.block _ h.2.1.lt) (hb.block _ h.2.2.1.1) (hb.block _ h.2.2.2.lt)
theorem RpEnv.kx {w1 w w' : World} {B a b N13 N14 N22 pg po P : Nat} {pt : Nat → Nat} (h : RpEnv w1 w N13 N14 N22 pg po P pt) (hk : KX B a b w w') (hB : w.heap.size ≤ B) (hN : N13 ≤ w.heap.size ∧ N13 ≤ a ∧ N13 ≤ b ∧ N14 ≠ a ∧ N14 ≠ b ∧ pg ≠ a ∧ pg ≠ b ∧ N22 ≠ a ∧ N22 ≠ b) : RpEnv w1 w' N13 N14 N22 pg po P pt := by
  have l1 := h.2.1.lt; have l2 := h.2.2.1.1; have l3 := h.2.2.2.lt
  exact h.same (hk.low (by omega) (by omega) (by omega)) (hk.2.2.2.2 _ (by omega) (by omega) (by omega)) (hk.2.2.2.2 _ (by omega) (by omega) (by omega)) (hk.2.2.2.2 _ (by omega) (by omega) (by omega))
/-- The lists of the chunks before. -/
def ZsOk (w : World) (lo j : Nat) (zs : Nat → Value) (ov : Value) (ll : Nat → List Nat) : Prop := ∀ i, i < j → OwnL w lo (zs i) (ll i) ∧ ∃ k, (zs i).ownBlock = some k ∧ ov.ownBlock ≠ some k
/-- Is a divisor of chunk j 0? -/
def badR (n U : Nat) (B : Nat → Nat → Nat) (j : Nat) : Prop := ∃ r, r < U ∧ ∃ i, 2 * j ≤ i ∧ i < min (2 * j + 2) n ∧ B i r = 0
/-- What the reference's Products answers. -/
def RppE (w w' : World) (n U m cc : Nat) (oc : Option Addr) (B zz : Nat → Nat → Nat) (el f : Nat → Nat) (e : Ending) : Prop :=
  (∃ (j : Nat) (er t : Int), j < (n + 1) / 2 ∧ (∀ i, i < j → ¬ badR n U B i) ∧ 3 * j ≤ m ∧ ((badR n U B j ∧ er = 100) ∨ (¬ badR n U B j ∧ m < 3 * j + 3 ∧ er = 81)) ∧ e = .returned (.tuple #[.agg #[.slice oc m cc, .int .i64 t], .slice none 0 0, .int .i64 er])) ∨
  ((∀ i, i < (n + 1) / 2 → ¬ badR n U B i) ∧ 3 * ((n + 1) / 2) ≤ m ∧ ∃ (v : Value) (zs : Nat → Value), e = .returned (.tuple #[.agg #[.slice oc m cc, .int .i64 ((3 * ((n + 1) / 2) : Nat) : Int)], v, .int .i64 0]) ∧ w'.ownsRow w.heap.size 26 1 v ((n + 1) / 2) ((List.range ((n + 1) / 2)).map zs) ∧ ∀ j, j < (n + 1) / 2 → OwnL w' w.heap.size (zs j) (zR (zz j) U ++ coinL el (fun t => f (t + 3 * j)) 3))
set_option maxHeartbeats 16000000 in
set_option maxRecDepth 20000 in
theorem rpp_ok (si : Int) (q U n cm cn m cc be ga : Nat) (om on oc : Option Addr) (FX FY : Nat → Value) (L L2 : Nat → Nat) (X Y : Nat → Nat → Nat) (f el sh st pt : Nat → Nat) (lb A B V zz : Nat → Nat → Nat) (wv : Nat → Nat → Nat → Nat)
    (h0 : ¬ si < 0) (h1 : ¬ 3 < si) (hq : 3 ≤ q ∧ q ≤ 5) (hU : U = 2 ^ q - 4) (hn : n ≤ 8) (hm : m < 9223372036854775807) (hL : ∀ i, i < n → L i = 2 ^ q) (hL2 : ∀ i, i < n → L2 i = 2 ^ q)
    (hpt : ∀ w, Calls Tryz.prog 28 #[.int .i64 si, .int .i64 (q : Int)] w fun e w' => (∃ v, e = .returned (.tuple #[v, .int .i64 0]) ∧ w'.ownsRow w.heap.size 25 4 v (2 ^ q) (els pt (2 ^ q))) ∧ Below w.heap.size w w')
    (ho1 : ∀ w, Calls Tryz.prog 29 #[.int .i64 si, .agg #[.int .u64 1, .int .u64 0, .int .u64 0, .int .u64 0]] w fun e w' => e = .returned (.agg #[.int .u64 ((limb 0 (st 0) : Nat) : Int), .int .u64 ((limb 1 (st 0) : Nat) : Int), .int .u64 ((limb 2 (st 0) : Nat) : Int), .int .u64 ((limb 3 (st 0) : Nat) : Int)]) ∧ Below w.heap.size w w')
    (hsh : ∀ i, i < n → ∀ w, Calls Tryz.prog 34 #[.int .i64 si, .int .i64 (i : Int)] w fun e w' => e = .returned (.agg #[.int .u64 ((limb 0 (sh i) : Nat) : Int), .int .u64 ((limb 1 (sh i) : Nat) : Int), .int .u64 ((limb 2 (sh i) : Nat) : Int), .int .u64 ((limb 3 (sh i) : Nat) : Int)]) ∧ Below w.heap.size w w')
    (hlb : ∀ i r, i < n → r < U → ∀ w, Calls Tryz.prog 33 #[.int .i64 si, .agg #[.int .u64 ((limb 0 (sh i) : Nat) : Int), .int .u64 ((limb 1 (sh i) : Nat) : Int), .int .u64 ((limb 2 (sh i) : Nat) : Int), .int .u64 ((limb 3 (sh i) : Nat) : Int)], .agg #[.int .u64 ((limb 0 (pt r) : Nat) : Int), .int .u64 ((limb 1 (pt r) : Nat) : Int), .int .u64 ((limb 2 (pt r) : Nat) : Int), .int .u64 ((limb 3 (pt r) : Nat) : Int)]] w fun e w' => e = .returned (.agg #[.int .u64 ((limb 0 (lb i r) : Nat) : Int), .int .u64 ((limb 1 (lb i r) : Nat) : Int), .int .u64 ((limb 2 (lb i r) : Nat) : Int), .int .u64 ((limb 3 (lb i r) : Nat) : Int)]) ∧ Below w.heap.size w w')
    (hta : ∀ i r, i < n → r < U → ∀ w, Calls Tryz.prog 32 #[.int .i64 si, .agg #[.int .u64 ((limb 0 (X i r) : Nat) : Int), .int .u64 ((limb 1 (X i r) : Nat) : Int), .int .u64 ((limb 2 (X i r) : Nat) : Int), .int .u64 ((limb 3 (X i r) : Nat) : Int)], .agg #[.int .u64 ((limb 0 (be) : Nat) : Int), .int .u64 ((limb 1 (be) : Nat) : Int), .int .u64 ((limb 2 (be) : Nat) : Int), .int .u64 ((limb 3 (be) : Nat) : Int)], .agg #[.int .u64 ((limb 0 (lb i r) : Nat) : Int), .int .u64 ((limb 1 (lb i r) : Nat) : Int), .int .u64 ((limb 2 (lb i r) : Nat) : Int), .int .u64 ((limb 3 (lb i r) : Nat) : Int)], .agg #[.int .u64 ((limb 0 (ga) : Nat) : Int), .int .u64 ((limb 1 (ga) : Nat) : Int), .int .u64 ((limb 2 (ga) : Nat) : Int), .int .u64 ((limb 3 (ga) : Nat) : Int)]] w fun e w' => e = .returned (.agg #[.int .u64 ((limb 0 (A i r) : Nat) : Int), .int .u64 ((limb 1 (A i r) : Nat) : Int), .int .u64 ((limb 2 (A i r) : Nat) : Int), .int .u64 ((limb 3 (A i r) : Nat) : Int)]) ∧ Below w.heap.size w w')
    (htb : ∀ i r, i < n → r < U → ∀ w, Calls Tryz.prog 32 #[.int .i64 si, .agg #[.int .u64 ((limb 0 (X i r) : Nat) : Int), .int .u64 ((limb 1 (X i r) : Nat) : Int), .int .u64 ((limb 2 (X i r) : Nat) : Int), .int .u64 ((limb 3 (X i r) : Nat) : Int)], .agg #[.int .u64 ((limb 0 (be) : Nat) : Int), .int .u64 ((limb 1 (be) : Nat) : Int), .int .u64 ((limb 2 (be) : Nat) : Int), .int .u64 ((limb 3 (be) : Nat) : Int)], .agg #[.int .u64 ((limb 0 (Y i r) : Nat) : Int), .int .u64 ((limb 1 (Y i r) : Nat) : Int), .int .u64 ((limb 2 (Y i r) : Nat) : Int), .int .u64 ((limb 3 (Y i r) : Nat) : Int)], .agg #[.int .u64 ((limb 0 (ga) : Nat) : Int), .int .u64 ((limb 1 (ga) : Nat) : Int), .int .u64 ((limb 2 (ga) : Nat) : Int), .int .u64 ((limb 3 (ga) : Nat) : Int)]] w fun e w' => e = .returned (.agg #[.int .u64 ((limb 0 (B i r) : Nat) : Int), .int .u64 ((limb 1 (B i r) : Nat) : Int), .int .u64 ((limb 2 (B i r) : Nat) : Int), .int .u64 ((limb 3 (B i r) : Nat) : Int)]) ∧ Below w.heap.size w w')
    (hby : ∀ i r, i < n → r < U → B i r ≠ 0 → ∀ w, Calls Tryz.prog 35 #[.int .i64 si, .agg #[.int .u64 ((limb 0 (A i r) : Nat) : Int), .int .u64 ((limb 1 (A i r) : Nat) : Int), .int .u64 ((limb 2 (A i r) : Nat) : Int), .int .u64 ((limb 3 (A i r) : Nat) : Int)], .agg #[.int .u64 ((limb 0 (B i r) : Nat) : Int), .int .u64 ((limb 1 (B i r) : Nat) : Int), .int .u64 ((limb 2 (B i r) : Nat) : Int), .int .u64 ((limb 3 (B i r) : Nat) : Int)]] w fun e w' => e = .returned (.agg #[.int .u64 ((limb 0 (V i r) : Nat) : Int), .int .u64 ((limb 1 (V i r) : Nat) : Int), .int .u64 ((limb 2 (V i r) : Nat) : Int), .int .u64 ((limb 3 (V i r) : Nat) : Int)]) ∧ Below w.heap.size w w')
    (hmv : ∀ j r i, 2 * j ≤ i → i < min (2 * j + 2) n → r < U → ∀ w, Calls Tryz.prog 33 #[.int .i64 si, .agg #[.int .u64 ((limb 0 (wv j r i) : Nat) : Int), .int .u64 ((limb 1 (wv j r i) : Nat) : Int), .int .u64 ((limb 2 (wv j r i) : Nat) : Int), .int .u64 ((limb 3 (wv j r i) : Nat) : Int)], .agg #[.int .u64 ((limb 0 (V i r) : Nat) : Int), .int .u64 ((limb 1 (V i r) : Nat) : Int), .int .u64 ((limb 2 (V i r) : Nat) : Int), .int .u64 ((limb 3 (V i r) : Nat) : Int)]] w fun e w' => e = .returned (.agg #[.int .u64 ((limb 0 (wv j r (i + 1)) : Nat) : Int), .int .u64 ((limb 1 (wv j r (i + 1)) : Nat) : Int), .int .u64 ((limb 2 (wv j r (i + 1)) : Nat) : Int), .int .u64 ((limb 3 (wv j r (i + 1)) : Nat) : Int)]) ∧ Below w.heap.size w w')
    (hof : ∀ i, i < m → ∀ w, Calls Tryz.prog 29 #[.int .i64 si, .agg #[.int .u64 ((limb 0 (f i) : Nat) : Int), .int .u64 ((limb 1 (f i) : Nat) : Int), .int .u64 ((limb 2 (f i) : Nat) : Int), .int .u64 ((limb 3 (f i) : Nat) : Int)]] w fun e w' => e = .returned (.agg #[.int .u64 ((limb 0 (el (f i)) : Nat) : Int), .int .u64 ((limb 1 (el (f i)) : Nat) : Int), .int .u64 ((limb 2 (el (f i)) : Nat) : Int), .int .u64 ((limb 3 (el (f i)) : Nat) : Int)]) ∧ Below w.heap.size w w')
    (hbm : ∀ i r, i < n → r < U → B i r < 115792089237316195423570985008687907853269984665640564039457584007913129639936)
    (hzq : (∀ j, zz j 0 = st j) ∧ (∀ j r, wv j r (2 * j) = zz j r) ∧ (∀ j r, j < (n + 1) / 2 → r < U → (∀ i, 2 * j ≤ i → i < min (2 * j + 2) n → B i r ≠ 0) → wv j r (min (2 * j + 2) n) = zz j (r + 1)) ∧ ∀ j, st (j + 1) = zz j U)
    (w : World) (e1 : Tab w (.slice om n cm) n FX L X) (e2 : Tab w (.slice on n cn) n FY L2 Y) (e3 : Es w (.slice oc m cc) m f) :
    Calls Tryz.prog 11 #[.int .i64 si, .int .i64 (q : Int), .slice om n cm, .slice on n cn, .agg #[.int .u64 ((limb 0 (be) : Nat) : Int), .int .u64 ((limb 1 (be) : Nat) : Int), .int .u64 ((limb 2 (be) : Nat) : Int), .int .u64 ((limb 3 (be) : Nat) : Int)], .agg #[.int .u64 ((limb 0 (ga) : Nat) : Int), .int .u64 ((limb 1 (ga) : Nat) : Int), .int .u64 ((limb 2 (ga) : Nat) : Int), .int .u64 ((limb 3 (ga) : Nat) : Int)], .agg #[.slice oc m cc, .int .i64 0]] w fun e w' => RppE w w' n U m cc oc B zz el f e ∧ Below w.heap.size w w' := by
  have hk0 : ¬ (q : Int) < 0 := by omega
  have h2 : ¬ (q : Int) < 3 := by omega
  have h3 : ¬ (5 : Int) < (q : Int) := by omega
  have hP : 8 ≤ 2 ^ q ∧ 2 ^ q ≤ 32 := ⟨Nat.pow_le_pow_right (n := 2) (by decide) hq.1, Nat.pow_le_pow_right (n := 2) (by decide) hq.2⟩
  obtain ⟨P, eP⟩ : ∃ P, P = 2 ^ q := ⟨_, rfl⟩
  have eI : (2 : Int) ^ q = (P : Int) := by rw [eP]; simp
  rw [← eP] at hP hU hL hL2 hpt
  have hkw : IntKind.u64.wrap (q : Int) = (q : Int) := by simp [IntKind.wrap, IntKind.bits, IntKind.signed]; omega
  have hPw : IntKind.i64.wrap ((2 : Int) ^ q) = (P : Int) := by rw [eI]; exact wrap_i64_nat P (by omega)
  have hUw : IntKind.i64.wrap ((P : Int) - 4) = (U : Int) := by rw [show (P : Int) - 4 = (U : Int) by omega]; exact wrap_i64_nat U (by omega)
  have hmin : min q 64 = q := by omega
  have hn8 : ¬ (8 : Int) < (n : Int) := by omega
  have HPT : Hid (∀ w, Calls Tryz.prog 28 #[.int .i64 si, .int .i64 (q : Int)] w fun e w' => (∃ v, e = .returned (.tuple #[v, .int .i64 0]) ∧ w'.ownsRow w.heap.size 25 4 v P (els pt P)) ∧ Below w.heap.size w w') := hpt
  have HO1 : Hid (∀ w, Calls Tryz.prog 29 #[.int .i64 si, .agg #[.int .u64 1, .int .u64 0, .int .u64 0, .int .u64 0]] w fun e w' => e = .returned (.agg #[.int .u64 ((limb 0 (st 0) : Nat) : Int), .int .u64 ((limb 1 (st 0) : Nat) : Int), .int .u64 ((limb 2 (st 0) : Nat) : Int), .int .u64 ((limb 3 (st 0) : Nat) : Int)]) ∧ Below w.heap.size w w') := ho1
  have HSH : Hid (∀ i, i < n → ∀ w, _) := hsh
  have HLB : Hid (∀ i r, i < n → r < U → ∀ w, _) := hlb
  have HTA : Hid (∀ i r, i < n → r < U → ∀ w, _) := hta
  have HTB : Hid (∀ i r, i < n → r < U → ∀ w, _) := htb
  have HBY : Hid (∀ i r, i < n → r < U → B i r ≠ 0 → ∀ w, _) := hby
  have HMV : Hid (∀ j r i, 2 * j ≤ i → i < min (2 * j + 2) n → r < U → ∀ w, _) := hmv
  have HOF : Hid (∀ i, i < m → ∀ w, _) := hof
  have HBM : Hid (∀ i r, i < n → r < U → B i r < 115792089237316195423570985008687907853269984665640564039457584007913129639936) := hbm
  have HZQ : Hid ((∀ j, zz j 0 = st j) ∧ (∀ j r, wv j r (2 * j) = zz j r) ∧ (∀ j r, j < (n + 1) / 2 → r < U → (∀ i, 2 * j ≤ i → i < min (2 * j + 2) n → B i r ≠ 0) → wv j r (min (2 * j + 2) n) = zz j (r + 1)) ∧ ∀ j, st (j + 1) = zz j U) := hzq
  have HTT : Hid (Tab w (.slice om n cm) n FX L X ∧ Tab w (.slice on n cn) n FY L2 Y ∧ (∀ i, i < n → L i = P) ∧ ∀ i, i < n → L2 i = P) := ⟨e1, e2, hL, hL2⟩
  have HCZ : Hid (Es w (.slice oc m cc) m f ∧ m < 9223372036854775807) := ⟨e3, hm⟩
  have HUP : Hid (U + 4 = P ∧ U ≤ 28 ∧ 4 ≤ U ∧ n ≤ 8) := by show _ ∧ _; omega
  obtain ⟨i0, hi, hz0, hz1, hz2⟩ := elemInfo
  have HI := (show Hid _ from hi); have HZ := (show Hid _ from And.intro hz0 (And.intro hz1 hz2)); clear hi hz0 hz1 hz2
  obtain ⟨i1, hi, hz0, hz1, hz2⟩ := elsInfo
  have HIT := (show Hid _ from hi); have HZT := (show Hid _ from And.intro hz0 (And.intro hz1 hz2)); clear hi hz0 hz1 hz2
  clear hpt ho1 hsh hlb hta htb hby hmv hof hbm hzq e1 e2 e3 hL hL2 hm hU hP hq hn eP eI
  go_enter Tryz.func11, Tryz.ntmps11
  go_upto_region 1 with fail
  have hs1 : (w.alloc (.cells #[.int .u64 ((limb 0 (be) : Nat) : Int), .int .u64 ((limb 1 (be) : Nat) : Int), .int .u64 ((limb 2 (be) : Nat) : Int), .int .u64 ((limb 3 (be) : Nat) : Int)] 25)).heap.size = w.heap.size + 1 := Array.size_push ..
  have hs2 : ((w.alloc (.cells #[.int .u64 ((limb 0 (be) : Nat) : Int), .int .u64 ((limb 1 (be) : Nat) : Int), .int .u64 ((limb 2 (be) : Nat) : Int), .int .u64 ((limb 3 (be) : Nat) : Int)] 25)).alloc (.cells #[.int .u64 ((limb 0 (ga) : Nat) : Int), .int .u64 ((limb 1 (ga) : Nat) : Int), .int .u64 ((limb 2 (ga) : Nat) : Int), .int .u64 ((limb 3 (ga) : Nat) : Int)] 25)).heap.size = w.heap.size + 1 + 1 := by rw [← hs1]; exact Array.size_push ..
  have hs3 : (((w.alloc (.cells #[.int .u64 ((limb 0 (be) : Nat) : Int), .int .u64 ((limb 1 (be) : Nat) : Int), .int .u64 ((limb 2 (be) : Nat) : Int), .int .u64 ((limb 3 (be) : Nat) : Int)] 25)).alloc (.cells #[.int .u64 ((limb 0 (ga) : Nat) : Int), .int .u64 ((limb 1 (ga) : Nat) : Int), .int .u64 ((limb 2 (ga) : Nat) : Int), .int .u64 ((limb 3 (ga) : Nat) : Int)] 25)).alloc (.cells #[.slice oc m cc, .int .i64 0] 37)).heap.size = w.heap.size + 1 + 1 + 1 := by rw [← hs2]; exact Array.size_push ..
  obtain ⟨N11, e0⟩ : ∃ z, z = w.heap.size := ⟨_, rfl⟩
  obtain ⟨N12, e1⟩ : ∃ z, z = N11 + 1 := ⟨_, rfl⟩
  obtain ⟨N13, e2⟩ : ∃ z, z = N12 + 1 := ⟨_, rfl⟩
  obtain ⟨N14, e3⟩ : ∃ z, z = N13 + 1 := ⟨_, rfl⟩
  obtain ⟨w1, hw1⟩ : ∃ z : World, z = (((w.alloc (.cells #[.int .u64 ((limb 0 (be) : Nat) : Int), .int .u64 ((limb 1 (be) : Nat) : Int), .int .u64 ((limb 2 (be) : Nat) : Int), .int .u64 ((limb 3 (be) : Nat) : Int)] 25)).alloc (.cells #[.int .u64 ((limb 0 (ga) : Nat) : Int), .int .u64 ((limb 1 (ga) : Nat) : Int), .int .u64 ((limb 2 (ga) : Nat) : Int), .int .u64 ((limb 3 (ga) : Nat) : Int)] 25)).alloc (.cells #[.slice oc m cc, .int .i64 0] 37)).alloc (.cells #[.slice none 0 0, .int .i64 0] 37) := ⟨_, rfl⟩
  have b11 : Blk w1 25 N11 (fun i => limb i be) := by rw [hw1]; exact (((Blk.newAt _ _ _ (fun i => limb i be) e0).alloc _).alloc _).alloc _
  have b12 : Blk w1 25 N12 (fun i => limb i ga) := by rw [hw1]; exact ((Blk.newAt _ _ _ (fun i => limb i ga) (by rw [e1, e0, hs1])).alloc _).alloc _
  have b13 : Lay w1 37 N13 #[.slice oc m cc, .int .i64 0] := by rw [hw1]; exact (Lay.newAt _ _ _ (by rw [e2, e1, e0, hs2])).alloc _
  have b14 : Lay w1 37 N14 #[.slice none 0 0, .int .i64 0] := by rw [hw1]; exact Lay.newAt _ _ _ (by rw [e3, e2, e1, e0, hs3])
  have hb1 : Below w.heap.size w w1 := by rw [hw1]; exact bAlloc (bAlloc (bAlloc (bAlloc (Below.refl _ _) _) _) _) _
  rw [← hw1]
  try rw [← e0]
  try rw [← e1]
  try rw [← e2]
  try rw [← e3]
  have l11 : w.heap.size ≤ N11 := by omega
  have l12 : w.heap.size ≤ N12 := by omega
  have l13 : w.heap.size ≤ N13 := by omega
  have l14 : w.heap.size ≤ N14 := by omega
  have n11_12 : N11 ≠ N12 := by omega
  have n11_13 : N11 ≠ N13 := by omega
  have n11_14 : N11 ≠ N14 := by omega
  have n12_13 : N12 ≠ N13 := by omega
  have n12_14 : N12 ≠ N14 := by omega
  have n13_14 : N13 ≠ N14 := by omega
  clear hw1 e0 hs1 hs2 hs3
  have HB1 : Hid (Below w.heap.size w w1 ∧ w.heap.size ≤ N11 ∧ N11 < N12 ∧ N12 < N13 ∧ N13 < N14) := ⟨hb1, l11, by omega, by omega, by omega⟩
  have HBK : Hid (Blk w1 25 N11 (fun i => limb i be) ∧ Blk w1 25 N12 (fun i => limb i ga) ∧ Lay w1 37 N13 #[.slice oc m cc, .int .i64 0] ∧ Lay w1 37 N14 #[.slice none 0 0, .int .i64 0]) := ⟨b11, b12, b13, b14⟩
  clear e1 e2 e3 b11 b12 b13 b14 hb1 l11 l12 l13 l14 n11_12 n11_13 n11_14 n12_13 n12_14 n13_14
  go_wp2
  go_loopw [19] (fun iv wr => ∃ i : Nat, iv = .int .i64 (i : Int) ∧ i ≤ n ∧ wr = w1) (fun iv _ => n - (intOf iv).toNat)
  case atStart => exact ⟨0, rfl, Nat.zero_le _, rfl⟩
  case round =>
    obtain ⟨i, rfl, hi, ew⟩ := hrel
    subst ew
    by_cases hlt : i < n
    · have hii : (i : Int) < (n : Int) := by omega
      have hi0 : (0 : Int) ≤ (i : Int) := by omega
      obtain ⟨ab, ao, oi, ci, ea, la, f1, c1⟩ := (HTT.out.1.below HB1.out.1).at hlt
      obtain ⟨bb, bo, oj, cj, eb, lb', f2, c2⟩ := (HTT.out.2.1.below HB1.out.1).at hlt
      rw [HTT.out.2.2.1 i hlt] at c1
      rw [HTT.out.2.2.2 i hlt] at c2
      clear f1 f2 la lb'
      subst ea
      subst eb
      go_wp2
      go_roundw
      case measure => simp [intOf]; omega
      case rel => exact ⟨i + 1, by go_num, by omega, by first | rfl | trivial⟩
    · have hii : ¬ (i : Int) < (n : Int) := by omega
      clear hi hlt hkw hPw hUw hmin h0 h1 hk0 h2 h3 hn8
      obtain ⟨w1, rfl⟩ : ∃ z, z = wr := ⟨_, rfl⟩
      go_wp2_with fail
      refine (HPT.out w1).mono ?_
      rintro e w2 ⟨⟨pv, rfl, hpo⟩, hb⟩
      clear hii
      obtain ⟨pg, po, pc, rfl, hpl, hpL, hpc⟩ : ∃ b o c, pv = .slice (some ⟨b, o, none⟩) P c ∧ w1.heap.size ≤ b ∧ b < w2.heap.size ∧ ∀ i, i < P → ∀ l, l < 4 → w2.cell? ⟨b, o + i * 4 + l, none⟩ = some (.int .u64 ((limb l (pt i) : Nat) : Int)) := by
        have hes := own_Es hpo
        rcases hpo.2 with ⟨_, h⟩ | ⟨zb, cap, cur, rfl, hbz, _⟩
        · have := HUP.out; omega
        · rcases hes with ⟨hc0, _⟩ | ⟨b, o, c, hv, h1, h2, h3, h4⟩
          · cases hc0
          · cases hv
            exact ⟨_, _, _, rfl, hbz, h3, h4⟩
      have HP2 : Hid (Blk w2 25 N11 (fun i => limb i be) ∧ Blk w2 25 N12 (fun i => limb i ga) ∧ Lay w2 37 N13 #[.slice oc m cc, .int .i64 0] ∧ Lay w2 37 N14 #[.slice none 0 0, .int .i64 0] ∧ Below w.heap.size w w2 ∧ Below w1.heap.size w1 w2) := ⟨HBK.out.1.belowAll hb, HBK.out.2.1.belowAll hb, HBK.out.2.2.1.belowAll hb, HBK.out.2.2.2.belowAll hb, bStep HB1.out.1 hb, hb⟩
      have HPN : Hid (N14 < pg) := Nat.lt_of_lt_of_le HBK.out.2.2.2.lt hpl
      have HPG : Hid (N14 < pg ∧ pg < w2.heap.size ∧ ∀ i, i < P → ∀ l, l < 4 → w2.cell? ⟨pg, po + i * 4 + l, none⟩ = some (.int .u64 ((limb l (pt i) : Nat) : Int))) := ⟨Nat.lt_of_lt_of_le HBK.out.2.2.2.lt hpl, hpL, hpc⟩
      clear hb hpo hpl hpL hpc
      go_upto_region 17 with fail
      obtain ⟨N22, e22⟩ : ∃ z, z = w2.heap.size := ⟨_, rfl⟩
      obtain ⟨NO, eNO⟩ : ∃ z, z = N22 + 1 := ⟨_, rfl⟩
      obtain ⟨w3, hw3⟩ : ∃ z : World, z = (w2.alloc (.cells #[.int .u64 0, .int .u64 0, .int .u64 0, .int .u64 0] 25)).alloc (.cells #[] 26) := ⟨_, rfl⟩
      have hs1 : (w2.alloc (.cells #[.int .u64 0, .int .u64 0, .int .u64 0, .int .u64 0] 25)).heap.size = w2.heap.size + 1 := Array.size_push ..
      have b22 : Blk w3 25 N22 (fun _ => 0) := by rw [hw3]; exact (Blk.newAt _ _ _ (fun _ => 0) e22).alloc _
      have oO : w3.ownsRow NO 26 1 (.slice (some ⟨NO, 0, none⟩) 0 0) 0 ((List.range 0).map (fun _ => Value.slice none 0 0)) := by
        have en : NO = (w2.alloc (.cells #[.int .u64 0, .int .u64 0, .int .u64 0, .int .u64 0] 25)).heap.size := by rw [hs1, eNO, e22]
        rw [hw3, en]; exact ⟨rfl, Or.inr ⟨_, 0, #[], rfl, Nat.le_refl _, new_blockE _ _, Nat.le_refl _, by decide, rfl, rfl⟩⟩
      have hb3 : Below w2.heap.size w2 w3 := by rw [hw3]; exact bAlloc (bAlloc (Below.refl _ _) _) _
      have l3 : w3.heap.size = NO + 1 := by rw [hw3, eNO, e22, ← hs1]; exact Array.size_push ..
      rw [← hw3]
      try rw [← e22]
      try rw [← eNO]
      have HN22 : Hid (pg < N22 ∧ NO = N22 + 1) := ⟨by have := HPG.out.2.1; omega, eNO⟩
      clear hw3 hs1 e22 eNO
      obtain ⟨s0, es0⟩ : ∃ z, z = st 0 := ⟨_, rfl⟩
      have HO2 := HO1.out
      rw [← es0] at HO2
      have HO3 : Hid (∀ w, _) := HO2
      have HS0 : Hid (s0 = st 0) := es0
      clear HO2 es0
      go_wp2_with fail
      refine (HO3.out w3).mono ?_
      rintro e w4 ⟨rfl, hb4⟩
      have b22' := b22.belowAll hb4
      have oO' := ownsRow_below oO hb4
      have hb34 := bStep hb3 hb4
      have l34 : NO + 1 ≤ w4.heap.size := by rw [← l3]; exact hb4.size
      clear b22 oO hb3 hb4 l3 HO3
      go_upto_region 18 with fail
      obtain ⟨N24, e24⟩ : ∃ z, z = w4.heap.size := ⟨_, rfl⟩
      obtain ⟨w5, hw5⟩ : ∃ z : World, z = w4.alloc (.cells #[.int .u64 ((limb 0 (s0) : Nat) : Int), .int .u64 ((limb 1 (s0) : Nat) : Int), .int .u64 ((limb 2 (s0) : Nat) : Int), .int .u64 ((limb 3 (s0) : Nat) : Int)] 25) := ⟨_, rfl⟩
      have b24 : Blk w5 25 N24 (fun i => limb i s0) := by rw [hw5]; exact Blk.newAt _ _ _ (fun i => limb i s0) e24
      have hb45 : Below w4.heap.size w4 w5 := by rw [hw5]; exact bAlloc (Below.refl _ _) _
      have b22 := b22'.belowAll hb45
      have oO := ownsRow_below oO' hb45
      have hb25 := bStep hb34 hb45
      have HN24 : Hid (NO < N24) := by show _ < _; omega
      rw [← hw5]
      try rw [← e24]
      have hx2 := HP2.out
      have en5 : RpEnv w1 w5 N13 N14 N22 pg po P pt := ⟨(hx2.2.2.2.2.2.mono (by have := HBK.out.2.2.1.lt; omega)).trans (hb25.mono (by have := hx2.2.2.1.lt; omega)), hx2.2.2.2.1.belowAll hb25, ⟨Nat.lt_of_lt_of_le HPG.out.2.1 hb25.size, fun i hi l hl => (hb25.cell (p := ⟨pg, po + i * 4 + l, none⟩) HPG.out.2.1).trans (HPG.out.2.2 i hi l hl)⟩, b22⟩
      have b13 : Lay w5 37 N13 #[.slice oc m cc, .int .i64 ((0 : Nat) : Int)] := hx2.2.2.1.belowAll hb25
      have HX5 : Hid (Below w.heap.size w w5) := bStep hx2.2.2.2.2.1 hb25
      have HBG : Hid (Blk w2 25 N11 (fun i => limb i be) ∧ Blk w2 25 N12 (fun i => limb i ga)) := ⟨hx2.1, hx2.2.1⟩
      clear hw5 e24 b22' oO' hb34 hb45 l34 hb25 hx2 HP2 HPG b22
      obtain ⟨C, eC⟩ : ∃ z, z = (n + 1) / 2 := ⟨_, rfl⟩
      have HC : Hid (C = (n + 1) / 2 ∧ C ≤ 4) := ⟨eC, by have := HUP.out; omega⟩
      have HCH : Hid (∀ w, Calls Tryz.prog 30 #[.int .i64 (n : Int)] w fun e w' => e = .returned (.int .i64 (C : Int)) ∧ w' = w) := fun w => by rw [eC]; exact rchunks_any n (by have := HUP.out; omega) w
      have HNN : Hid (N13 < N14 ∧ N14 < pg ∧ pg < N22 ∧ N22 < NO ∧ NO < N24 ∧ w.heap.size ≤ N11 ∧ N11 < N13 ∧ N12 < N13) := by
        have a1 := HB1.out; have a2 := HN22.out; have a3 := HN24.out; have a4 := HPN.out
        show _ ∧ _
        omega
      clear eC HN22 HN24 HPN
      go_wp2
      go_loopw [23, 25] (fun ov jv wx => ∃ (j : Nat) (zs : Nat → Value), jv = .int .i64 (j : Int) ∧ j ≤ C ∧ Hid (3 * j ≤ m ∧ ∀ i, i < j → ¬ badR n U B i) ∧ RpEnv w1 wx N13 N14 N22 pg po P pt ∧ Lay wx 37 N13 #[.slice oc m cc, .int .i64 ((3 * j : Nat) : Int)] ∧ Blk wx 25 N24 (fun i => limb i (st j)) ∧ wx.ownsRow NO 26 1 ov j ((List.range j).map zs) ∧ Hid (∃ k, ov.ownBlock = some k ∧ k ≠ N24) ∧ Hid (ZsOk wx (N24 + 1) j zs ov (fun i => zR (zz i) U ++ coinL el (fun t => f (t + 3 * i)) 3)) ∧ Below w.heap.size w wx) (fun _ jv _ => C - (intOf jv).toNat)
      case atStart => exact ⟨0, fun _ => .slice none 0 0, rfl, Nat.zero_le _, ⟨by omega, fun i hi => absurd hi (by omega)⟩, en5, b13, by rw [← HS0.out]; exact b24, oO, ⟨NO, rfl, by have := HNN.out; omega⟩, fun i hi => absurd hi (by omega), HX5.out⟩
      case round =>
        obtain ⟨j, zs, rfl, hj, HJ, env, c13, c24, oo, HON, HZS, hbx⟩ := hrel
        obtain ⟨wx, rfl⟩ : ∃ z, z = wr := ⟨_, rfl⟩
        obtain ⟨ov, rfl⟩ : ∃ z, z = u23 := ⟨_, rfl⟩
        clear en5 b13 b24 oO
        by_cases hjc : j < C
        · have hji : (j : Int) < (C : Int) := by omega
          go_wp2_with fail
          refine (HCH.out wx).mono ?_
          rintro e wy ⟨rfl, ey⟩
          obtain rfl := ey.symm
          clear ey
          obtain ⟨sj, esj⟩ : ∃ z, z = st j := ⟨_, rfl⟩
          rw [← esj] at c24
          have HSJ : Hid (zz j 0 = sj) := by show _ = _; rw [HZQ.out.1, esj]
          have k24 := c24.cell
          clear esj
          go_upto_region 22 with fail
          obtain ⟨BZ, eBZ⟩ : ∃ z, z = wx.heap.size := ⟨_, rfl⟩
          obtain ⟨wc, hwc⟩ : ∃ z : World, z = wx.alloc (.cells #[.int .u64 ((limb 0 (sj) : Nat) : Int), .int .u64 ((limb 1 (sj) : Nat) : Int), .int .u64 ((limb 2 (sj) : Nat) : Int), .int .u64 ((limb 3 (sj) : Nat) : Int)] 25) := ⟨_, rfl⟩
          have oz0 : OwnL wc BZ (.slice (some ⟨BZ, 0, none⟩) 1 1) (zR (zz j) 0) := by
            rw [show zR (zz j) 0 = [sj] by unfold zR; simp [HSJ.out], hwc, eBZ]
            exact ownL_one wx _ sj (Nat.le_refl _)
          have hbc : Below BZ wx wc := by rw [hwc, eBZ]; exact bAlloc (Below.refl _ _) _
          rw [← hwc]
          try rw [← eBZ]
          have HBZ : Hid (BZ = wx.heap.size) := eBZ
          clear hwc eBZ k24
          obtain ⟨f2, ef2⟩ : ∃ z, z = 2 * j := ⟨_, rfl⟩
          obtain ⟨EJ, eEJ⟩ : ∃ z, z = min (2 * j + 2) n := ⟨_, rfl⟩
          have HFE : Hid (f2 = 2 * j ∧ EJ = min (2 * j + 2) n ∧ f2 ≤ EJ ∧ EJ ≤ n ∧ n ≤ 8) := by have h1 := HC.out; have h2 := HUP.out; show _ ∧ _; omega
          have HEN : Hid (∀ w, Calls Tryz.prog 31 #[.int .i64 (j : Int), .int .i64 (n : Int)] w fun e w' => e = .returned (.int .i64 (EJ : Int)) ∧ w' = w) := fun w => by rw [eEJ]; exact rend_any j n (by have := HC.out; omega) w
          have hfw : IntKind.i64.wrap (2 * (j : Int)) = (f2 : Int) := by have := HC.out; rw [show 2 * (j : Int) = (f2 : Int) by omega]; exact wrap_i64_nat f2 (by omega)
          have HEV : Hid (RpEnv w1 wx N13 N14 N22 pg po P pt ∧ Lay wx 37 N13 #[.slice oc m cc, .int .i64 ((3 * j : Nat) : Int)] ∧ Blk wx 25 N24 (fun i => limb i sj) ∧ Below w.heap.size w wx ∧ N24 < wx.heap.size) := ⟨env, c13, c24, hbx, c24.lt⟩
          have HOO : Hid (wx.ownsRow NO 26 1 ov j ((List.range j).map zs)) := oo
          clear ef2 eEJ env c13 c24 oo hbx hj
          go_wp2
          go_loopw [26, 27] (fun zv rv wa => ∃ r : Nat, rv = .int .i64 (r : Int) ∧ r ≤ U ∧ OwnL wa BZ zv (zR (zz j) r) ∧ Below BZ wx wa ∧ BZ ≤ wa.heap.size ∧ Hid (∀ r', r' < r → ∀ i, 2 * j ≤ i → i < min (2 * j + 2) n → B i r' ≠ 0)) (fun _ rv _ => U - (intOf rv).toNat)
          case atStart => exact ⟨0, rfl, Nat.zero_le _, oz0, hbc, Nat.le_trans (Nat.le_of_eq HBZ.out) hbc.size, fun r hr => absurd hr (by omega)⟩
          case round =>
            obtain ⟨r, rfl, hr, oz, hba, lBa, HNB⟩ := hrel
            obtain ⟨wa, rfl⟩ : ∃ z, z = wr := ⟨_, rfl⟩
            clear oz0 hbc
            by_cases hrU : r < U
            · have hri : (r : Int) < (U : Int) := by omega
              have hr0 : (0 : Int) ≤ (r : Int) := by omega
              obtain ⟨LL, eLL⟩ : ∃ l, l = zR (zz j) r := ⟨_, rfl⟩
              obtain ⟨p, ep⟩ : ∃ z, z = zz j r := ⟨_, rfl⟩
              have HLL : Hid (LL.length = r + 1 ∧ LL.getD r 0 = p ∧ zR (zz j) (r + 1) = LL ++ [zz j (r + 1)] ∧ p = zz j r) := by rw [eLL, ep]; exact ⟨zR_len _ _, zR_at _ _, zR_succ _ _, rfl⟩
              rw [← eLL] at oz
              clear eLL ep
              have hrl : (r : Int) < (LL.length : Int) := by have := HLL.out.1; omega
              have hrL : r < LL.length := by have := HLL.out.1; omega
              have hes := oz.es
              rcases oz.2 with ⟨_, h0⟩ | ⟨zb, cap, cur, rfl, hbz, hgz, hcp, hcm, hcs, htk⟩
              · exact absurd h0 (by omega)
              rcases hes with ⟨hc0, _⟩ | ⟨zb', zo, c', hvz, _, _, lzb, hcl⟩
              · cases hc0
              cases hvz
              have z0 := hcl r hrL 0 (by decide); have z1 := hcl r hrL 1 (by decide); have z2 := hcl r hrL 2 (by decide); have z3 := hcl r hrL 3 (by decide)
              simp only [Nat.zero_add, Nat.add_zero] at z0 z1 z2 z3
              rw [HLL.out.2.1] at z0 z1 z2 z3
              have HOZ : Hid (OwnL wa BZ (.slice (some ⟨zb, 0, none⟩) LL.length cap) LL) := oz
              clear hcl hgz hcs htk hbz hcp hcm oz
              go_upto_region 26 with fail
              obtain ⟨N28, e28⟩ : ∃ z, z = wa.heap.size := ⟨_, rfl⟩
              obtain ⟨wb, hwb⟩ : ∃ z : World, z = wa.alloc (.cells #[.int .u64 ((limb 0 (p) : Nat) : Int), .int .u64 ((limb 1 (p) : Nat) : Int), .int .u64 ((limb 2 (p) : Nat) : Int), .int .u64 ((limb 3 (p) : Nat) : Int)] 25) := ⟨_, rfl⟩
              have b28 : Blk wb 25 N28 (fun i => limb i p) := by rw [hwb]; exact Blk.newAt _ _ _ (fun i => limb i p) e28
              have hbb : Below wa.heap.size wa wb := by rw [hwb]; exact bAlloc (Below.refl _ _) _
              rw [← hwb]
              try rw [← e28]
              have HE28 : Hid (N28 = wa.heap.size) := e28
              have HBA : Hid (Below BZ wx wa ∧ BZ ≤ wa.heap.size) := ⟨hba, lBa⟩
              clear hwb e28 z0 z1 z2 z3 hba lBa
              go_wp2
              go_loopw [29] (fun iv wd => ∃ i : Nat, iv = .int .i64 (i : Int) ∧ f2 ≤ i ∧ i ≤ EJ ∧ Below wa.heap.size wa wd ∧ Blk wd 25 N28 (fun t => limb t (wv j r i)) ∧ Hid (∀ i', f2 ≤ i' → i' < i → B i' r ≠ 0)) (fun iv _ => EJ - (intOf iv).toNat)
              case atStart => exact ⟨f2, rfl, Nat.le_refl _, HFE.out.2.2.1, hbb, by rw [HFE.out.1, HZQ.out.2.1, ← HLL.out.2.2.2]; exact b28, fun i' h1 h2 => absurd h1 (by omega)⟩
              case round =>
                obtain ⟨i, rfl, hfi, hie, hbd, d28, HNI⟩ := hrel
                obtain ⟨wd, rfl⟩ : ∃ z, z = wr := ⟨_, rfl⟩
                clear b28 hbb
                by_cases hlt : i < EJ
                · have hii : (i : Int) < (EJ : Int) := by omega
                  have hi0 : (0 : Int) ≤ (i : Int) := by omega
                  have HIN : Hid (i < n ∧ (i : Int) < (n : Int) ∧ r < P ∧ (r : Int) < (P : Int) ∧ 2 * j ≤ i ∧ i < min (2 * j + 2) n) := by have h1 := HFE.out; have h2 := HUP.out; show _ ∧ _; omega
                  go_wp2_with fail
                  refine (HEN.out wd).mono ?_
                  rintro e wy ⟨rfl, ey⟩
                  obtain rfl := ey.symm
                  clear ey
                  have hin := HIN.out.2.1
                  have hrP := HIN.out.2.2.2.1
                  have hbxd : Below wx.heap.size wx wd := by
                    have h1 := HBA.out.1
                    rw [HBZ.out] at h1
                    exact h1.trans (hbd.mono (by have := HBA.out.2; rw [HBZ.out] at this; exact this))
                  have hbw : Below w.heap.size w wd := bStep HEV.out.2.2.2.1 hbxd
                  have env := HEV.out.1.below (by have := HNN.out; have := HEV.out.2.2.2.2; omega) hbxd
                  obtain ⟨ab, ao, ai, a2, ac, rfl, l1, l2, x0, xc⟩ := (HTT.out.1.below hbw).elem HIN.out.1 (HTT.out.2.2.1 i HIN.out.1) HIN.out.2.2.1
                  obtain ⟨bb, bo, bi, b2, bc, rfl, m1, m2, y0, yc⟩ := (HTT.out.2.1.below hbw).elem HIN.out.1 (HTT.out.2.2.2 i HIN.out.1) HIN.out.2.2.1
                  obtain ⟨x, ex⟩ : ∃ z, z = X i r := ⟨_, rfl⟩
                  obtain ⟨y, ey⟩ : ∃ z, z = Y i r := ⟨_, rfl⟩
                  obtain ⟨pp, epp⟩ : ∃ z, z = pt r := ⟨_, rfl⟩
                  have HCX : Hid (∀ w', Below wd.heap.size wd w' → w'.cell? ⟨ab, ao + i, none⟩ = some (.slice (some ⟨ai, a2, none⟩) P ac) ∧ (w'.cell? ⟨ai, a2 + r * 4, none⟩ = some (.int .u64 ((limb 0 x : Nat) : Int)) ∧ w'.cell? ⟨ai, a2 + r * 4 + 1, none⟩ = some (.int .u64 ((limb 1 x : Nat) : Int)) ∧ w'.cell? ⟨ai, a2 + r * 4 + 2, none⟩ = some (.int .u64 ((limb 2 x : Nat) : Int)) ∧ w'.cell? ⟨ai, a2 + r * 4 + 3, none⟩ = some (.int .u64 ((limb 3 x : Nat) : Int)))) := fun w' h => ⟨(h.cell (p := ⟨ab, ao + i, none⟩) l1).trans x0, by
                    rw [ex]
                    have q := fun l hl => (h.cell (p := ⟨ai, a2 + r * 4 + l, none⟩) l2).trans (xc l hl)
                    exact ⟨q 0 (by decide), q 1 (by decide), q 2 (by decide), q 3 (by decide)⟩⟩
                  have HCY : Hid (∀ w', Below wd.heap.size wd w' → w'.cell? ⟨bb, bo + i, none⟩ = some (.slice (some ⟨bi, b2, none⟩) P bc) ∧ (w'.cell? ⟨bi, b2 + r * 4, none⟩ = some (.int .u64 ((limb 0 y : Nat) : Int)) ∧ w'.cell? ⟨bi, b2 + r * 4 + 1, none⟩ = some (.int .u64 ((limb 1 y : Nat) : Int)) ∧ w'.cell? ⟨bi, b2 + r * 4 + 2, none⟩ = some (.int .u64 ((limb 2 y : Nat) : Int)) ∧ w'.cell? ⟨bi, b2 + r * 4 + 3, none⟩ = some (.int .u64 ((limb 3 y : Nat) : Int)))) := fun w' h => ⟨(h.cell (p := ⟨bb, bo + i, none⟩) m1).trans y0, by
                    rw [ey]
                    have q := fun l hl => (h.cell (p := ⟨bi, b2 + r * 4 + l, none⟩) m2).trans (yc l hl)
                    exact ⟨q 0 (by decide), q 1 (by decide), q 2 (by decide), q 3 (by decide)⟩⟩
                  have HCP : Hid (∀ w', Below wd.heap.size wd w' → (w'.cell? ⟨pg, po + r * 4, none⟩ = some (.int .u64 ((limb 0 pp : Nat) : Int)) ∧ w'.cell? ⟨pg, po + r * 4 + 1, none⟩ = some (.int .u64 ((limb 1 pp : Nat) : Int)) ∧ w'.cell? ⟨pg, po + r * 4 + 2, none⟩ = some (.int .u64 ((limb 2 pp : Nat) : Int)) ∧ w'.cell? ⟨pg, po + r * 4 + 3, none⟩ = some (.int .u64 ((limb 3 pp : Nat) : Int)))) := fun w' h => by
                    rw [epp]
                    have q := fun l hl => (h.cell (p := ⟨pg, po + r * 4 + l, none⟩) env.2.2.1.1).trans (env.2.2.1.2 r HIN.out.2.2.1 l hl)
                    exact ⟨q 0 (by decide), q 1 (by decide), q 2 (by decide), q 3 (by decide)⟩
                  have x11 : N11 < N13 := HNN.out.2.2.2.2.2.2.1
                  have x12 : N12 < N13 := HNN.out.2.2.2.2.2.2.2
                  have b11 : Blk wd 25 N11 (fun i => limb i be) := HBK.out.1.below env.1 x11
                  have b12 : Blk wd 25 N12 (fun i => limb i ga) := HBK.out.2.1.below env.1 x12
                  obtain ⟨sc, esc⟩ : ∃ z, z = sh i := ⟨_, rfl⟩
                  obtain ⟨lv, elv⟩ : ∃ z, z = lb i r := ⟨_, rfl⟩
                  obtain ⟨u, eu⟩ : ∃ z, z = A i r := ⟨_, rfl⟩
                  obtain ⟨dv, edv⟩ : ∃ z, z = B i r := ⟨_, rfl⟩
                  have HS1 := HSH.out i HIN.out.1
                  have HL1 := HLB.out i r HIN.out.1 hrU
                  have HA1 := HTA.out i r HIN.out.1 hrU
                  have HB1' := HTB.out i r HIN.out.1 hrU
                  rw [← esc] at HS1 HL1
                  rw [← epp, ← elv] at HL1
                  rw [← ex, ← elv, ← eu] at HA1
                  rw [← ex, ← ey, ← edv] at HB1'
                  have HS2 : Hid (∀ w, _) := HS1
                  have HL2 : Hid (∀ w, _) := HL1
                  have HA2 : Hid (∀ w, _) := HA1
                  have HB2 : Hid (∀ w, _) := HB1'
                  have HUV : Hid (u = A i r ∧ dv = B i r) := ⟨eu, edv⟩
                  clear ex ey epp esc elv eu edv HS1 HL1 HA1 HB1' l1 l2 x0 xc m1 m2 y0 yc
                  go_upto_region 29 with fail
                  go_cut [30] (fun uv we => ∃ N30, uv = .pointer (some ⟨N30, 0, none⟩) ∧ Below wd.heap.size wd we ∧ Blk we 25 N30 (fun t => limb t u))
                  case first =>
                    have HS0 : Hid (Below wd.heap.size wd wd.drew) := (Below.refl _ _).drew
                    refine wp_region_Z (fun w' => Kp wd w') 99 (by kernel_rfl) ?_
                    refine wpZ_take (i := 0) (v := .int .i64 si) 127 rfl rfl (by kernel_rfl) (by kernel_rfl) (by kernel_rfl) (Or.inr (by decide)) (fun _ _ _ h => h) (Or.inl ⟨by rfl, fun w hSw => by go_simp⟩) (HS0.out) ?_
                    simp only [Act.put, List.setIfInBounds_toArray]
                    dsimp only [List.set_cons_zero, List.set_cons_succ]
                    refine wpZ_take (i := 1) (v := .slice (some ⟨ab, ao, none⟩) n cm) 128 rfl rfl (by kernel_rfl) (by kernel_rfl) (by kernel_rfl) (Or.inr (by decide)) (fun _ _ _ h => h) (Or.inl ⟨by rfl, fun w hSw => by go_simp⟩) (HS0.out) ?_
                    simp only [Act.put, List.setIfInBounds_toArray]
                    dsimp only [List.set_cons_zero, List.set_cons_succ]
                    refine wpZ_take (i := 2) (v := .int .i64 (i : Int)) 129 rfl rfl (by kernel_rfl) (by kernel_rfl) (by kernel_rfl) (Or.inr (by decide)) (fun _ _ _ h => h) (Or.inl ⟨by rfl, fun w hSw => by go_simp⟩) (HS0.out) ?_
                    simp only [Act.put, List.setIfInBounds_toArray]
                    dsimp only [List.set_cons_zero, List.set_cons_succ]
                    refine wpZ_take (i := 3) (v := .pointer (some ⟨ab, ao + i, none⟩)) 130 rfl rfl (by kernel_rfl) (by kernel_rfl) (by kernel_rfl) (Or.inr (by decide)) (fun _ _ _ h => h) (Or.inl ⟨by rfl, fun w hSw => by go_simp⟩) (HS0.out) ?_
                    simp only [Act.put, List.setIfInBounds_toArray]
                    dsimp only [List.set_cons_zero, List.set_cons_succ]
                    refine wpZ_take (i := 4) (v := .slice (some ⟨ai, a2, none⟩) P ac) 131 rfl rfl (by kernel_rfl) (by kernel_rfl) (by kernel_rfl) (Or.inr (by decide)) (fun _ _ _ h => h) (Or.inl ⟨by rfl, fun w hSw => by (have qq := (HCX.out w hSw).1; have hin := HIN.out.2.1; clear hSw; go_simp)⟩) (HS0.out) ?_
                    simp only [Act.put, List.setIfInBounds_toArray]
                    dsimp only [List.set_cons_zero, List.set_cons_succ]
                    refine wpZ_take (i := 5) (v := .int .i64 (r : Int)) 132 rfl rfl (by kernel_rfl) (by kernel_rfl) (by kernel_rfl) (Or.inr (by decide)) (fun _ _ _ h => h) (Or.inl ⟨by rfl, fun w hSw => by go_simp⟩) (HS0.out) ?_
                    simp only [Act.put, List.setIfInBounds_toArray]
                    dsimp only [List.set_cons_zero, List.set_cons_succ]
                    refine wpZ_take (i := 6) (v := .pointer (some ⟨ai, a2 + r * 4, none⟩)) 133 rfl rfl (by kernel_rfl) (by kernel_rfl) (by kernel_rfl) (Or.inr (by decide)) (fun _ _ _ h => h) (Or.inl ⟨by rfl, fun w hSw => by go_simp⟩) (HS0.out) ?_
                    simp only [Act.put, List.setIfInBounds_toArray]
                    dsimp only [List.set_cons_zero, List.set_cons_succ]
                    refine wpZ_take (i := 7) (v := .agg #[.int .u64 ((limb 0 (x) : Nat) : Int), .int .u64 ((limb 1 (x) : Nat) : Int), .int .u64 ((limb 2 (x) : Nat) : Int), .int .u64 ((limb 3 (x) : Nat) : Int)]) 134 rfl rfl (by kernel_rfl) (by kernel_rfl) (by kernel_rfl) (Or.inr (by decide)) (fun _ _ _ h => h) (Or.inl ⟨by rfl, fun w hSw => by (obtain ⟨_, q0, q1, q2, q3⟩ := HCX.out w hSw; clear hSw; go_simp)⟩) (HS0.out) ?_
                    simp only [Act.put, List.setIfInBounds_toArray]
                    dsimp only [List.set_cons_zero, List.set_cons_succ]
                    refine wpZ_take (i := 8) (v := .agg #[.int .u64 ((limb 0 (be) : Nat) : Int), .int .u64 ((limb 1 (be) : Nat) : Int), .int .u64 ((limb 2 (be) : Nat) : Int), .int .u64 ((limb 3 (be) : Nat) : Int)]) 135 rfl rfl (by kernel_rfl) (by kernel_rfl) (by kernel_rfl) (Or.inr (by decide)) (fun _ _ _ h => h) (Or.inl ⟨by rfl, fun w hSw => by (have qq := (b11.belowAll hSw).cell; clear hSw; go_simp)⟩) (HS0.out) ?_
                    simp only [Act.put, List.setIfInBounds_toArray]
                    dsimp only [List.set_cons_zero, List.set_cons_succ]
                    refine wpZ_take (i := 9) (v := .int .i64 si) 136 rfl rfl (by kernel_rfl) (by kernel_rfl) (by kernel_rfl) (Or.inr (by decide)) (fun _ _ _ h => h) (Or.inl ⟨by rfl, fun w hSw => by go_simp⟩) (HS0.out) ?_
                    simp only [Act.put, List.setIfInBounds_toArray]
                    dsimp only [List.set_cons_zero, List.set_cons_succ]
                    refine wpZ_take (i := 10) (v := .int .i64 si) 137 rfl rfl (by kernel_rfl) (by kernel_rfl) (by kernel_rfl) (Or.inr (by decide)) (fun _ _ _ h => h) (Or.inl ⟨by rfl, fun w hSw => by go_simp⟩) (HS0.out) ?_
                    simp only [Act.put, List.setIfInBounds_toArray]
                    dsimp only [List.set_cons_zero, List.set_cons_succ]
                    refine wpZ_take (i := 11) (v := .int .i64 (i : Int)) 138 rfl rfl (by kernel_rfl) (by kernel_rfl) (by kernel_rfl) (Or.inr (by decide)) (fun _ _ _ h => h) (Or.inl ⟨by rfl, fun w hSw => by go_simp⟩) (HS0.out) ?_
                    simp only [Act.put, List.setIfInBounds_toArray]
                    dsimp only [List.set_cons_zero, List.set_cons_succ]
                    refine wpZ_take (i := 13) (v := .slice (some ⟨pg, po, none⟩) P pc) 140 rfl rfl (by kernel_rfl) (by kernel_rfl) (by kernel_rfl) (Or.inr (by decide)) (fun _ _ _ h => h) (Or.inl ⟨by rfl, fun w hSw => by go_simp⟩) (HS0.out) ?_
                    simp only [Act.put, List.setIfInBounds_toArray]
                    dsimp only [List.set_cons_zero, List.set_cons_succ]
                    refine wpZ_take (i := 14) (v := .int .i64 (r : Int)) 141 rfl rfl (by kernel_rfl) (by kernel_rfl) (by kernel_rfl) (Or.inr (by decide)) (fun _ _ _ h => h) (Or.inl ⟨by rfl, fun w hSw => by go_simp⟩) (HS0.out) ?_
                    simp only [Act.put, List.setIfInBounds_toArray]
                    dsimp only [List.set_cons_zero, List.set_cons_succ]
                    refine wpZ_take (i := 15) (v := .pointer (some ⟨pg, po + r * 4, none⟩)) 142 rfl rfl (by kernel_rfl) (by kernel_rfl) (by kernel_rfl) (Or.inr (by decide)) (fun _ _ _ h => h) (Or.inl ⟨by rfl, fun w hSw => by go_simp⟩) (HS0.out) ?_
                    simp only [Act.put, List.setIfInBounds_toArray]
                    dsimp only [List.set_cons_zero, List.set_cons_succ]
                    refine wpZ_take (i := 16) (v := .agg #[.int .u64 ((limb 0 (pp) : Nat) : Int), .int .u64 ((limb 1 (pp) : Nat) : Int), .int .u64 ((limb 2 (pp) : Nat) : Int), .int .u64 ((limb 3 (pp) : Nat) : Int)]) 143 rfl rfl (by kernel_rfl) (by kernel_rfl) (by kernel_rfl) (Or.inr (by decide)) (fun _ _ _ h => h) (Or.inl ⟨by rfl, fun w hSw => by (obtain ⟨q0, q1, q2, q3⟩ := HCP.out w hSw; clear hSw; go_simp)⟩) (HS0.out) ?_
                    simp only [Act.put, List.setIfInBounds_toArray]
                    dsimp only [List.set_cons_zero, List.set_cons_succ]
                    refine wpZ_take (i := 18) (v := .agg #[.int .u64 ((limb 0 (ga) : Nat) : Int), .int .u64 ((limb 1 (ga) : Nat) : Int), .int .u64 ((limb 2 (ga) : Nat) : Int), .int .u64 ((limb 3 (ga) : Nat) : Int)]) 145 rfl rfl (by kernel_rfl) (by kernel_rfl) (by kernel_rfl) (Or.inr (by decide)) (fun _ _ _ h => h) (Or.inl ⟨by rfl, fun w hSw => by (have qq := (b12.belowAll hSw).cell; clear hSw; go_simp)⟩) (HS0.out) ?_
                    simp only [Act.put, List.setIfInBounds_toArray]
                    dsimp only [List.set_cons_zero, List.set_cons_succ]
                    refine wpZ_two (i := 12) (j := 20) (by kernel_rfl) rfl rfl (fun K hK => ?_) (fun K hK => ?_) 
                    · go_simp
                      refine (HS2.out wd.drew).mono ?_
                      rintro e wK1 ⟨rfl, hbK1⟩
                      have hSK1 : Below wd.heap.size wd wK1 := bStep (HS0.out) hbK1
                      go_wp2_with fail
                      refine hK.out _ _ (fun _ => hSK1) ?_
                      clear hK K
                      refine wpZ_two (i := 17) (j := 20) (by kernel_rfl) rfl rfl (fun K hK => ?_) (fun K hK => ?_) 
                      · go_simp
                        refine (HL2.out wK1).mono ?_
                        rintro e wK2 ⟨rfl, hbK2⟩
                        have hSK2 : Below wd.heap.size wd wK2 := bStep (hSK1) hbK2
                        go_wp2_with fail
                        refine hK.out _ _ (fun _ => hSK2) ?_
                        clear hK K
                        refine wpZ_two (i := 19) (j := 20) (by kernel_rfl) rfl rfl (fun K hK => ?_) (fun K hK => ?_) 
                        · go_simp
                          refine (HA2.out wK2).mono ?_
                          rintro e wK3 ⟨rfl, hbK3⟩
                          have hSK3 : Below wd.heap.size wd wK3 := bStep (hSK2) hbK3
                          go_wp2_with fail
                          refine hK.out _ _ (fun _ => hSK3) ?_
                          clear hK K
                          refine wpZ_one (i := 20) (by kernel_rfl) rfl (fun K hK => ?_)
                          go_simp
                          have hSK4' : Below wd.heap.size wd (wK3.alloc (.cells #[.int .u64 0, .int .u64 0, .int .u64 0, .int .u64 0] 25)) := bAlloc (hSK3) _
                          refine hK.out _ _ (fun _ => hSK4') ?_
                          clear hK K
                          obtain ⟨N30_4, hN30_4⟩ : ∃ N, N = wK3.heap.size := ⟨_, rfl⟩
                          obtain ⟨wK4, hwK4⟩ : ∃ x : World, x = wK3.alloc (.cells #[.int .u64 0, .int .u64 0, .int .u64 0, .int .u64 0] 25) := ⟨_, rfl⟩
                          have hSK4 : Below wd.heap.size wd wK4 := by rw [hwK4]; exact hSK4'
                          have b30_4 : Blk wK4 25 N30_4 (fun _ => 0) := by rw [hwK4, hN30_4]; exact Blk.new wK3 25 (fun _ => 0)
                          have lN30_4 : wd.heap.size ≤ N30_4 := by rw [hN30_4]; exact (hSK3).size
                          rw [← hwK4, ← hN30_4]
                          clear hwK4 hSK4' hN30_4
                          refine wpZ_one (i := 21) (by kernel_rfl) rfl (fun K hK => ?_)
                          have cS := b30_4.cell; have fS := b30_4.frozen
                          go_simp
                          refine hK.out _ _ (fun _ => bSet4 (hSK4) lN30_4 _ _ _ _) ?_
                          clear hK K cS fS
                          obtain ⟨wK5, hwK5⟩ : ∃ x : World, x = ((((wK4.setCell ⟨N30_4, 0, none⟩ (.int .u64 ((limb 0 u : Nat) : Int))).setCell ⟨N30_4, 1, none⟩ (.int .u64 ((limb 1 u : Nat) : Int))).setCell ⟨N30_4, 2, none⟩ (.int .u64 ((limb 2 u : Nat) : Int))).setCell ⟨N30_4, 3, none⟩ (.int .u64 ((limb 3 u : Nat) : Int))) := ⟨_, rfl⟩
                          have hSK5 : Below wd.heap.size wd wK5 := by rw [hwK5]; exact bSet4 (hSK4) lN30_4 _ _ _ _
                          have b30_5 : Blk wK5 25 N30_4 (fun i => limb i u) := by rw [hwK5]; exact b30_4.set4 (fun i => limb i u)
                          rw [← hwK5]
                          clear hwK5
                          refine wpZ_done (by kernel_rfl) ?_ _
                          go_wp2_with fail
                          go_meet
                          exact ⟨_, rfl, hSK5, b30_5⟩
                        · go_simp
                          have hSK3' : Below wd.heap.size wd (wK2.alloc (.cells #[.int .u64 0, .int .u64 0, .int .u64 0, .int .u64 0] 25)) := bAlloc (hSK2) _
                          refine hK.out _ _ (fun _ => hSK3') ?_
                          clear hK K
                          obtain ⟨N30_3, hN30_3⟩ : ∃ N, N = wK2.heap.size := ⟨_, rfl⟩
                          obtain ⟨wK3, hwK3⟩ : ∃ x : World, x = wK2.alloc (.cells #[.int .u64 0, .int .u64 0, .int .u64 0, .int .u64 0] 25) := ⟨_, rfl⟩
                          have hSK3 : Below wd.heap.size wd wK3 := by rw [hwK3]; exact hSK3'
                          have b30_3 : Blk wK3 25 N30_3 (fun _ => 0) := by rw [hwK3, hN30_3]; exact Blk.new wK2 25 (fun _ => 0)
                          have lN30_3 : wd.heap.size ≤ N30_3 := by rw [hN30_3]; exact (hSK2).size
                          rw [← hwK3, ← hN30_3]
                          clear hwK3 hSK3' hN30_3
                          refine wpZ_one (i := 19) (by kernel_rfl) rfl (fun K hK => ?_)
                          go_simp
                          refine (HA2.out wK3).mono ?_
                          rintro e wK4 ⟨rfl, hbK4⟩
                          have hSK4 : Below wd.heap.size wd wK4 := bStep (hSK3) hbK4
                          go_wp2_with fail
                          refine hK.out _ _ (fun _ => hSK4) ?_
                          clear hK K
                          have b30_4 := b30_3.belowAll hbK4
                          refine wpZ_one (i := 21) (by kernel_rfl) rfl (fun K hK => ?_)
                          have cS := b30_4.cell; have fS := b30_4.frozen
                          go_simp
                          refine hK.out _ _ (fun _ => bSet4 (hSK4) lN30_3 _ _ _ _) ?_
                          clear hK K cS fS
                          obtain ⟨wK5, hwK5⟩ : ∃ x : World, x = ((((wK4.setCell ⟨N30_3, 0, none⟩ (.int .u64 ((limb 0 u : Nat) : Int))).setCell ⟨N30_3, 1, none⟩ (.int .u64 ((limb 1 u : Nat) : Int))).setCell ⟨N30_3, 2, none⟩ (.int .u64 ((limb 2 u : Nat) : Int))).setCell ⟨N30_3, 3, none⟩ (.int .u64 ((limb 3 u : Nat) : Int))) := ⟨_, rfl⟩
                          have hSK5 : Below wd.heap.size wd wK5 := by rw [hwK5]; exact bSet4 (hSK4) lN30_3 _ _ _ _
                          have b30_5 : Blk wK5 25 N30_3 (fun i => limb i u) := by rw [hwK5]; exact b30_4.set4 (fun i => limb i u)
                          rw [← hwK5]
                          clear hwK5
                          refine wpZ_done (by kernel_rfl) ?_ _
                          go_wp2_with fail
                          go_meet
                          exact ⟨_, rfl, hSK5, b30_5⟩
                      · go_simp
                        have hSK2' : Below wd.heap.size wd (wK1.alloc (.cells #[.int .u64 0, .int .u64 0, .int .u64 0, .int .u64 0] 25)) := bAlloc (hSK1) _
                        refine hK.out _ _ (fun _ => hSK2') ?_
                        clear hK K
                        obtain ⟨N30_2, hN30_2⟩ : ∃ N, N = wK1.heap.size := ⟨_, rfl⟩
                        obtain ⟨wK2, hwK2⟩ : ∃ x : World, x = wK1.alloc (.cells #[.int .u64 0, .int .u64 0, .int .u64 0, .int .u64 0] 25) := ⟨_, rfl⟩
                        have hSK2 : Below wd.heap.size wd wK2 := by rw [hwK2]; exact hSK2'
                        have b30_2 : Blk wK2 25 N30_2 (fun _ => 0) := by rw [hwK2, hN30_2]; exact Blk.new wK1 25 (fun _ => 0)
                        have lN30_2 : wd.heap.size ≤ N30_2 := by rw [hN30_2]; exact (hSK1).size
                        rw [← hwK2, ← hN30_2]
                        clear hwK2 hSK2' hN30_2
                        refine wpZ_one (i := 17) (by kernel_rfl) rfl (fun K hK => ?_)
                        go_simp
                        refine (HL2.out wK2).mono ?_
                        rintro e wK3 ⟨rfl, hbK3⟩
                        have hSK3 : Below wd.heap.size wd wK3 := bStep (hSK2) hbK3
                        go_wp2_with fail
                        refine hK.out _ _ (fun _ => hSK3) ?_
                        clear hK K
                        have b30_3 := b30_2.belowAll hbK3
                        refine wpZ_one (i := 19) (by kernel_rfl) rfl (fun K hK => ?_)
                        go_simp
                        refine (HA2.out wK3).mono ?_
                        rintro e wK4 ⟨rfl, hbK4⟩
                        have hSK4 : Below wd.heap.size wd wK4 := bStep (hSK3) hbK4
                        go_wp2_with fail
                        refine hK.out _ _ (fun _ => hSK4) ?_
                        clear hK K
                        have b30_4 := b30_3.belowAll hbK4
                        refine wpZ_one (i := 21) (by kernel_rfl) rfl (fun K hK => ?_)
                        have cS := b30_4.cell; have fS := b30_4.frozen
                        go_simp
                        refine hK.out _ _ (fun _ => bSet4 (hSK4) lN30_2 _ _ _ _) ?_
                        clear hK K cS fS
                        obtain ⟨wK5, hwK5⟩ : ∃ x : World, x = ((((wK4.setCell ⟨N30_2, 0, none⟩ (.int .u64 ((limb 0 u : Nat) : Int))).setCell ⟨N30_2, 1, none⟩ (.int .u64 ((limb 1 u : Nat) : Int))).setCell ⟨N30_2, 2, none⟩ (.int .u64 ((limb 2 u : Nat) : Int))).setCell ⟨N30_2, 3, none⟩ (.int .u64 ((limb 3 u : Nat) : Int))) := ⟨_, rfl⟩
                        have hSK5 : Below wd.heap.size wd wK5 := by rw [hwK5]; exact bSet4 (hSK4) lN30_2 _ _ _ _
                        have b30_5 : Blk wK5 25 N30_2 (fun i => limb i u) := by rw [hwK5]; exact b30_4.set4 (fun i => limb i u)
                        rw [← hwK5]
                        clear hwK5
                        refine wpZ_done (by kernel_rfl) ?_ _
                        go_wp2_with fail
                        go_meet
                        exact ⟨_, rfl, hSK5, b30_5⟩
                    · go_simp
                      have hSK1' : Below wd.heap.size wd ((wd.alloc (.cells #[.int .u64 0, .int .u64 0, .int .u64 0, .int .u64 0] 25)).drew) := (bAlloc (Below.refl _ _) _).drew
                      refine hK.out _ _ (fun _ => hSK1') ?_
                      clear hK K
                      obtain ⟨N30_1, hN30_1⟩ : ∃ N, N = wd.heap.size := ⟨_, rfl⟩
                      obtain ⟨wK1, hwK1⟩ : ∃ x : World, x = (wd.alloc (.cells #[.int .u64 0, .int .u64 0, .int .u64 0, .int .u64 0] 25)).drew := ⟨_, rfl⟩
                      have hSK1 : Below wd.heap.size wd wK1 := by rw [hwK1]; exact hSK1'
                      have b30_1 : Blk wK1 25 N30_1 (fun _ => 0) := by rw [hwK1, hN30_1]; exact (Blk.new wd 25 (fun _ => 0)).drew
                      have lN30_1 : wd.heap.size ≤ N30_1 := by rw [hN30_1]; exact (HS0.out).size
                      rw [← hwK1, ← hN30_1]
                      clear hwK1 hSK1' hN30_1
                      refine wpZ_one (i := 12) (by kernel_rfl) rfl (fun K hK => ?_)
                      go_simp
                      refine (HS2.out wK1).mono ?_
                      rintro e wK2 ⟨rfl, hbK2⟩
                      have hSK2 : Below wd.heap.size wd wK2 := bStep (hSK1) hbK2
                      go_wp2_with fail
                      refine hK.out _ _ (fun _ => hSK2) ?_
                      clear hK K
                      have b30_2 := b30_1.belowAll hbK2
                      refine wpZ_one (i := 17) (by kernel_rfl) rfl (fun K hK => ?_)
                      go_simp
                      refine (HL2.out wK2).mono ?_
                      rintro e wK3 ⟨rfl, hbK3⟩
                      have hSK3 : Below wd.heap.size wd wK3 := bStep (hSK2) hbK3
                      go_wp2_with fail
                      refine hK.out _ _ (fun _ => hSK3) ?_
                      clear hK K
                      have b30_3 := b30_2.belowAll hbK3
                      refine wpZ_one (i := 19) (by kernel_rfl) rfl (fun K hK => ?_)
                      go_simp
                      refine (HA2.out wK3).mono ?_
                      rintro e wK4 ⟨rfl, hbK4⟩
                      have hSK4 : Below wd.heap.size wd wK4 := bStep (hSK3) hbK4
                      go_wp2_with fail
                      refine hK.out _ _ (fun _ => hSK4) ?_
                      clear hK K
                      have b30_4 := b30_3.belowAll hbK4
                      refine wpZ_one (i := 21) (by kernel_rfl) rfl (fun K hK => ?_)
                      have cS := b30_4.cell; have fS := b30_4.frozen
                      go_simp
                      refine hK.out _ _ (fun _ => bSet4 (hSK4) lN30_1 _ _ _ _) ?_
                      clear hK K cS fS
                      obtain ⟨wK5, hwK5⟩ : ∃ x : World, x = ((((wK4.setCell ⟨N30_1, 0, none⟩ (.int .u64 ((limb 0 u : Nat) : Int))).setCell ⟨N30_1, 1, none⟩ (.int .u64 ((limb 1 u : Nat) : Int))).setCell ⟨N30_1, 2, none⟩ (.int .u64 ((limb 2 u : Nat) : Int))).setCell ⟨N30_1, 3, none⟩ (.int .u64 ((limb 3 u : Nat) : Int))) := ⟨_, rfl⟩
                      have hSK5 : Below wd.heap.size wd wK5 := by rw [hwK5]; exact bSet4 (hSK4) lN30_1 _ _ _ _
                      have b30_5 : Blk wK5 25 N30_1 (fun i => limb i u) := by rw [hwK5]; exact b30_4.set4 (fun i => limb i u)
                      rw [← hwK5]
                      clear hwK5
                      refine wpZ_done (by kernel_rfl) ?_ _
                      go_wp2_with fail
                      go_meet
                      exact ⟨_, rfl, hSK5, b30_5⟩
                  case rest =>
                    obtain ⟨N30, rfl, hbe1, b30⟩ := hcut
                    obtain ⟨we, rfl⟩ : ∃ z, z = wc := ⟨_, rfl⟩
                    have c11 := b11.belowAll hbe1; have c12 := b12.belowAll hbe1
                    have HCX2 : Hid (∀ w', Below we.heap.size we w' → _) := fun w' h => HCX.out w' (bStep hbe1 h)
                    have HCY2 : Hid (∀ w', Below we.heap.size we w' → _) := fun w' h => HCY.out w' (bStep hbe1 h)
                    have HB1E : Hid (Below wd.heap.size wd we ∧ Blk we 25 N30 (fun t => limb t u)) := ⟨hbe1, b30⟩
                    clear b11 b12 HCX HCY HCP hbe1 b30
                    go_upto_region 30 with fail
                    go_cut [31] (fun uv wf => ∃ N31, uv = .pointer (some ⟨N31, 0, none⟩) ∧ Below we.heap.size we wf ∧ Blk wf 25 N31 (fun t => limb t dv))
                    case first =>
                      have HS0 : Hid (Below we.heap.size we we.drew) := (Below.refl _ _).drew
                      refine wp_region_Z (fun w' => Kp we w') 99 (by kernel_rfl) ?_
                      refine wpZ_take (i := 0) (v := .int .i64 si) 147 rfl rfl (by kernel_rfl) (by kernel_rfl) (by kernel_rfl) (Or.inr (by decide)) (fun _ _ _ h => h) (Or.inl ⟨by rfl, fun w hSw => by go_simp⟩) (HS0.out) ?_
                      simp only [Act.put, List.setIfInBounds_toArray]
                      dsimp only [List.set_cons_zero, List.set_cons_succ]
                      refine wpZ_take (i := 1) (v := .slice (some ⟨ab, ao, none⟩) n cm) 148 rfl rfl (by kernel_rfl) (by kernel_rfl) (by kernel_rfl) (Or.inr (by decide)) (fun _ _ _ h => h) (Or.inl ⟨by rfl, fun w hSw => by go_simp⟩) (HS0.out) ?_
                      simp only [Act.put, List.setIfInBounds_toArray]
                      dsimp only [List.set_cons_zero, List.set_cons_succ]
                      refine wpZ_take (i := 2) (v := .int .i64 (i : Int)) 149 rfl rfl (by kernel_rfl) (by kernel_rfl) (by kernel_rfl) (Or.inr (by decide)) (fun _ _ _ h => h) (Or.inl ⟨by rfl, fun w hSw => by go_simp⟩) (HS0.out) ?_
                      simp only [Act.put, List.setIfInBounds_toArray]
                      dsimp only [List.set_cons_zero, List.set_cons_succ]
                      refine wpZ_take (i := 3) (v := .pointer (some ⟨ab, ao + i, none⟩)) 150 rfl rfl (by kernel_rfl) (by kernel_rfl) (by kernel_rfl) (Or.inr (by decide)) (fun _ _ _ h => h) (Or.inl ⟨by rfl, fun w hSw => by go_simp⟩) (HS0.out) ?_
                      simp only [Act.put, List.setIfInBounds_toArray]
                      dsimp only [List.set_cons_zero, List.set_cons_succ]
                      refine wpZ_take (i := 4) (v := .slice (some ⟨ai, a2, none⟩) P ac) 151 rfl rfl (by kernel_rfl) (by kernel_rfl) (by kernel_rfl) (Or.inr (by decide)) (fun _ _ _ h => h) (Or.inl ⟨by rfl, fun w hSw => by (have qq := (HCX2.out w hSw).1; have hin := HIN.out.2.1; clear hSw; go_simp)⟩) (HS0.out) ?_
                      simp only [Act.put, List.setIfInBounds_toArray]
                      dsimp only [List.set_cons_zero, List.set_cons_succ]
                      refine wpZ_take (i := 5) (v := .int .i64 (r : Int)) 152 rfl rfl (by kernel_rfl) (by kernel_rfl) (by kernel_rfl) (Or.inr (by decide)) (fun _ _ _ h => h) (Or.inl ⟨by rfl, fun w hSw => by go_simp⟩) (HS0.out) ?_
                      simp only [Act.put, List.setIfInBounds_toArray]
                      dsimp only [List.set_cons_zero, List.set_cons_succ]
                      refine wpZ_take (i := 6) (v := .pointer (some ⟨ai, a2 + r * 4, none⟩)) 153 rfl rfl (by kernel_rfl) (by kernel_rfl) (by kernel_rfl) (Or.inr (by decide)) (fun _ _ _ h => h) (Or.inl ⟨by rfl, fun w hSw => by go_simp⟩) (HS0.out) ?_
                      simp only [Act.put, List.setIfInBounds_toArray]
                      dsimp only [List.set_cons_zero, List.set_cons_succ]
                      refine wpZ_take (i := 7) (v := .agg #[.int .u64 ((limb 0 (x) : Nat) : Int), .int .u64 ((limb 1 (x) : Nat) : Int), .int .u64 ((limb 2 (x) : Nat) : Int), .int .u64 ((limb 3 (x) : Nat) : Int)]) 154 rfl rfl (by kernel_rfl) (by kernel_rfl) (by kernel_rfl) (Or.inr (by decide)) (fun _ _ _ h => h) (Or.inl ⟨by rfl, fun w hSw => by (obtain ⟨_, q0, q1, q2, q3⟩ := HCX2.out w hSw; clear hSw; go_simp)⟩) (HS0.out) ?_
                      simp only [Act.put, List.setIfInBounds_toArray]
                      dsimp only [List.set_cons_zero, List.set_cons_succ]
                      refine wpZ_take (i := 8) (v := .agg #[.int .u64 ((limb 0 (be) : Nat) : Int), .int .u64 ((limb 1 (be) : Nat) : Int), .int .u64 ((limb 2 (be) : Nat) : Int), .int .u64 ((limb 3 (be) : Nat) : Int)]) 155 rfl rfl (by kernel_rfl) (by kernel_rfl) (by kernel_rfl) (Or.inr (by decide)) (fun _ _ _ h => h) (Or.inl ⟨by rfl, fun w hSw => by (have qq := (c11.belowAll hSw).cell; clear hSw; go_simp)⟩) (HS0.out) ?_
                      simp only [Act.put, List.setIfInBounds_toArray]
                      dsimp only [List.set_cons_zero, List.set_cons_succ]
                      refine wpZ_take (i := 9) (v := .slice (some ⟨bb, bo, none⟩) n cn) 156 rfl rfl (by kernel_rfl) (by kernel_rfl) (by kernel_rfl) (Or.inr (by decide)) (fun _ _ _ h => h) (Or.inl ⟨by rfl, fun w hSw => by go_simp⟩) (HS0.out) ?_
                      simp only [Act.put, List.setIfInBounds_toArray]
                      dsimp only [List.set_cons_zero, List.set_cons_succ]
                      refine wpZ_take (i := 10) (v := .int .i64 (i : Int)) 157 rfl rfl (by kernel_rfl) (by kernel_rfl) (by kernel_rfl) (Or.inr (by decide)) (fun _ _ _ h => h) (Or.inl ⟨by rfl, fun w hSw => by go_simp⟩) (HS0.out) ?_
                      simp only [Act.put, List.setIfInBounds_toArray]
                      dsimp only [List.set_cons_zero, List.set_cons_succ]
                      refine wpZ_take (i := 11) (v := .pointer (some ⟨bb, bo + i, none⟩)) 158 rfl rfl (by kernel_rfl) (by kernel_rfl) (by kernel_rfl) (Or.inr (by decide)) (fun _ _ _ h => h) (Or.inl ⟨by rfl, fun w hSw => by go_simp⟩) (HS0.out) ?_
                      simp only [Act.put, List.setIfInBounds_toArray]
                      dsimp only [List.set_cons_zero, List.set_cons_succ]
                      refine wpZ_take (i := 12) (v := .slice (some ⟨bi, b2, none⟩) P bc) 159 rfl rfl (by kernel_rfl) (by kernel_rfl) (by kernel_rfl) (Or.inr (by decide)) (fun _ _ _ h => h) (Or.inl ⟨by rfl, fun w hSw => by (have qq := (HCY2.out w hSw).1; have hin := HIN.out.2.1; clear hSw; go_simp)⟩) (HS0.out) ?_
                      simp only [Act.put, List.setIfInBounds_toArray]
                      dsimp only [List.set_cons_zero, List.set_cons_succ]
                      refine wpZ_take (i := 13) (v := .int .i64 (r : Int)) 160 rfl rfl (by kernel_rfl) (by kernel_rfl) (by kernel_rfl) (Or.inr (by decide)) (fun _ _ _ h => h) (Or.inl ⟨by rfl, fun w hSw => by go_simp⟩) (HS0.out) ?_
                      simp only [Act.put, List.setIfInBounds_toArray]
                      dsimp only [List.set_cons_zero, List.set_cons_succ]
                      refine wpZ_take (i := 14) (v := .pointer (some ⟨bi, b2 + r * 4, none⟩)) 161 rfl rfl (by kernel_rfl) (by kernel_rfl) (by kernel_rfl) (Or.inr (by decide)) (fun _ _ _ h => h) (Or.inl ⟨by rfl, fun w hSw => by go_simp⟩) (HS0.out) ?_
                      simp only [Act.put, List.setIfInBounds_toArray]
                      dsimp only [List.set_cons_zero, List.set_cons_succ]
                      refine wpZ_take (i := 15) (v := .agg #[.int .u64 ((limb 0 (y) : Nat) : Int), .int .u64 ((limb 1 (y) : Nat) : Int), .int .u64 ((limb 2 (y) : Nat) : Int), .int .u64 ((limb 3 (y) : Nat) : Int)]) 162 rfl rfl (by kernel_rfl) (by kernel_rfl) (by kernel_rfl) (Or.inr (by decide)) (fun _ _ _ h => h) (Or.inl ⟨by rfl, fun w hSw => by (obtain ⟨_, q0, q1, q2, q3⟩ := HCY2.out w hSw; clear hSw; go_simp)⟩) (HS0.out) ?_
                      simp only [Act.put, List.setIfInBounds_toArray]
                      dsimp only [List.set_cons_zero, List.set_cons_succ]
                      refine wpZ_take (i := 16) (v := .agg #[.int .u64 ((limb 0 (ga) : Nat) : Int), .int .u64 ((limb 1 (ga) : Nat) : Int), .int .u64 ((limb 2 (ga) : Nat) : Int), .int .u64 ((limb 3 (ga) : Nat) : Int)]) 163 rfl rfl (by kernel_rfl) (by kernel_rfl) (by kernel_rfl) (Or.inr (by decide)) (fun _ _ _ h => h) (Or.inl ⟨by rfl, fun w hSw => by (have qq := (c12.belowAll hSw).cell; clear hSw; go_simp)⟩) (HS0.out) ?_
                      simp only [Act.put, List.setIfInBounds_toArray]
                      dsimp only [List.set_cons_zero, List.set_cons_succ]
                      refine wpZ_two (i := 17) (j := 18) (by kernel_rfl) rfl rfl (fun K hK => ?_) (fun K hK => ?_) 
                      · go_simp
                        refine (HB2.out we.drew).mono ?_
                        rintro e wK1 ⟨rfl, hbK1⟩
                        have hSK1 : Below we.heap.size we wK1 := bStep (HS0.out) hbK1
                        go_wp2_with fail
                        refine hK.out _ _ (fun _ => hSK1) ?_
                        clear hK K
                        refine wpZ_one (i := 18) (by kernel_rfl) rfl (fun K hK => ?_)
                        go_simp
                        have hSK2' : Below we.heap.size we (wK1.alloc (.cells #[.int .u64 0, .int .u64 0, .int .u64 0, .int .u64 0] 25)) := bAlloc (hSK1) _
                        refine hK.out _ _ (fun _ => hSK2') ?_
                        clear hK K
                        obtain ⟨N31_2, hN31_2⟩ : ∃ N, N = wK1.heap.size := ⟨_, rfl⟩
                        obtain ⟨wK2, hwK2⟩ : ∃ x : World, x = wK1.alloc (.cells #[.int .u64 0, .int .u64 0, .int .u64 0, .int .u64 0] 25) := ⟨_, rfl⟩
                        have hSK2 : Below we.heap.size we wK2 := by rw [hwK2]; exact hSK2'
                        have b31_2 : Blk wK2 25 N31_2 (fun _ => 0) := by rw [hwK2, hN31_2]; exact Blk.new wK1 25 (fun _ => 0)
                        have lN31_2 : we.heap.size ≤ N31_2 := by rw [hN31_2]; exact (hSK1).size
                        rw [← hwK2, ← hN31_2]
                        clear hwK2 hSK2' hN31_2
                        refine wpZ_one (i := 19) (by kernel_rfl) rfl (fun K hK => ?_)
                        have cS := b31_2.cell; have fS := b31_2.frozen
                        go_simp
                        refine hK.out _ _ (fun _ => bSet4 (hSK2) lN31_2 _ _ _ _) ?_
                        clear hK K cS fS
                        obtain ⟨wK3, hwK3⟩ : ∃ x : World, x = ((((wK2.setCell ⟨N31_2, 0, none⟩ (.int .u64 ((limb 0 dv : Nat) : Int))).setCell ⟨N31_2, 1, none⟩ (.int .u64 ((limb 1 dv : Nat) : Int))).setCell ⟨N31_2, 2, none⟩ (.int .u64 ((limb 2 dv : Nat) : Int))).setCell ⟨N31_2, 3, none⟩ (.int .u64 ((limb 3 dv : Nat) : Int))) := ⟨_, rfl⟩
                        have hSK3 : Below we.heap.size we wK3 := by rw [hwK3]; exact bSet4 (hSK2) lN31_2 _ _ _ _
                        have b31_3 : Blk wK3 25 N31_2 (fun i => limb i dv) := by rw [hwK3]; exact b31_2.set4 (fun i => limb i dv)
                        rw [← hwK3]
                        clear hwK3
                        refine wpZ_done (by kernel_rfl) ?_ _
                        go_wp2_with fail
                        go_meet
                        exact ⟨_, rfl, hSK3, b31_3⟩
                      · go_simp
                        have hSK1' : Below we.heap.size we ((we.alloc (.cells #[.int .u64 0, .int .u64 0, .int .u64 0, .int .u64 0] 25)).drew) := (bAlloc (Below.refl _ _) _).drew
                        refine hK.out _ _ (fun _ => hSK1') ?_
                        clear hK K
                        obtain ⟨N31_1, hN31_1⟩ : ∃ N, N = we.heap.size := ⟨_, rfl⟩
                        obtain ⟨wK1, hwK1⟩ : ∃ x : World, x = (we.alloc (.cells #[.int .u64 0, .int .u64 0, .int .u64 0, .int .u64 0] 25)).drew := ⟨_, rfl⟩
                        have hSK1 : Below we.heap.size we wK1 := by rw [hwK1]; exact hSK1'
                        have b31_1 : Blk wK1 25 N31_1 (fun _ => 0) := by rw [hwK1, hN31_1]; exact (Blk.new we 25 (fun _ => 0)).drew
                        have lN31_1 : we.heap.size ≤ N31_1 := by rw [hN31_1]; exact (HS0.out).size
                        rw [← hwK1, ← hN31_1]
                        clear hwK1 hSK1' hN31_1
                        refine wpZ_one (i := 17) (by kernel_rfl) rfl (fun K hK => ?_)
                        go_simp
                        refine (HB2.out wK1).mono ?_
                        rintro e wK2 ⟨rfl, hbK2⟩
                        have hSK2 : Below we.heap.size we wK2 := bStep (hSK1) hbK2
                        go_wp2_with fail
                        refine hK.out _ _ (fun _ => hSK2) ?_
                        clear hK K
                        have b31_2 := b31_1.belowAll hbK2
                        refine wpZ_one (i := 19) (by kernel_rfl) rfl (fun K hK => ?_)
                        have cS := b31_2.cell; have fS := b31_2.frozen
                        go_simp
                        refine hK.out _ _ (fun _ => bSet4 (hSK2) lN31_1 _ _ _ _) ?_
                        clear hK K cS fS
                        obtain ⟨wK3, hwK3⟩ : ∃ x : World, x = ((((wK2.setCell ⟨N31_1, 0, none⟩ (.int .u64 ((limb 0 dv : Nat) : Int))).setCell ⟨N31_1, 1, none⟩ (.int .u64 ((limb 1 dv : Nat) : Int))).setCell ⟨N31_1, 2, none⟩ (.int .u64 ((limb 2 dv : Nat) : Int))).setCell ⟨N31_1, 3, none⟩ (.int .u64 ((limb 3 dv : Nat) : Int))) := ⟨_, rfl⟩
                        have hSK3 : Below we.heap.size we wK3 := by rw [hwK3]; exact bSet4 (hSK2) lN31_1 _ _ _ _
                        have b31_3 : Blk wK3 25 N31_1 (fun i => limb i dv) := by rw [hwK3]; exact b31_2.set4 (fun i => limb i dv)
                        rw [← hwK3]
                        clear hwK3
                        refine wpZ_done (by kernel_rfl) ?_ _
                        go_wp2_with fail
                        go_meet
                        exact ⟨_, rfl, hSK3, b31_3⟩
                    case rest =>
                      obtain ⟨N31, rfl, hbf, b31⟩ := hcut
                      obtain ⟨wf, rfl⟩ : ∃ z, z = wc := ⟨_, rfl⟩
                      have hbdf : Below wd.heap.size wd wf := bStep HB1E.out.1 hbf
                      have b30 := HB1E.out.2.belowAll hbf
                      have env2 := env.below (by have := HNN.out; have := env.2.1.lt; omega) hbdf
                      have g28 := d28.belowAll hbdf
                      have c31 := b31.cell
                      have c22 := env2.2.2.2.cell
                      have hbwf : Below w.heap.size w wf := bStep hbw hbdf
                      have HDM : Hid (dv < 115792089237316195423570985008687907853269984665640564039457584007913129639936) := by show _ < _; rw [HUV.out.2]; exact HBM.out i r HIN.out.1 hrU
                      clear c11 c12 HCX2 HCY2 hbf d28 HS2 HL2 HA2 HB2
                      by_cases hd0 : dv = 0
                      · have hq : ∀ w, (binOp .eql 25 (.agg #[.int .u64 ((limb 0 (dv) : Nat) : Int), .int .u64 ((limb 1 (dv) : Nat) : Int), .int .u64 ((limb 2 (dv) : Nat) : Int), .int .u64 ((limb 3 (dv) : Nat) : Int)]) (.agg #[.int .u64 0, .int .u64 0, .int .u64 0, .int .u64 0])).run Tryz.prog w = .ok (.bool true) w := fun w => by have h := eqlE2 dv 0 HDM.out M_pos w; rw [decide_eq_true hd0, zEq] at h; exact h
                        have HD0 : Hid (B i r = 0) := by rw [← HUV.out.2]; exact hd0
                        clear hd0
                        obtain ⟨c3, ec3⟩ : ∃ z, z = 3 * j := ⟨_, rfl⟩
                        have c13 : Lay wf 37 N13 #[.slice oc m cc, .int .i64 (c3 : Int)] := by rw [ec3]; exact (HEV.out.2.1.belowAll hbxd).belowAll hbdf
                        have c14 := env2.2.1
                        have HJC : Hid (j < (n + 1) / 2) := by show _ < _; rw [← HC.out.1]; exact hjc
                        clear g28 b30 env env2 hbdf hbxd hbw ec3 hbd b31
                        have q0 := c13.at (o := 0) rfl; have q1 := c13.at (o := 1) rfl
                        have f0 := c14.frozen.1; have f1 := c14.frozen.2
                        obtain ⟨p0v, p0⟩ : ∃ v, wf.cell? ⟨N14, 0, none⟩ = some v := ⟨_, c14.at (o := 0) rfl⟩
                        obtain ⟨p1v, p1⟩ : ∃ v, wf.cell? ⟨N14, 1, none⟩ = some v := ⟨_, c14.at (o := 1) rfl⟩
                        obtain ⟨w9, hw9, e9, hk9⟩ := c14.put2 (.slice oc m cc) (.int .i64 (c3 : Int))
                        have hbe := bKept hbwf (show w.heap.size ≤ N14 by have := HNN.out; omega) hk9
                        have r0 := e9.at (o := 0) rfl; have r1 := e9.at (o := 1) rfl
                        have hk9' := hk9
                        clear hk9 c14
                        go_wp2
                        refine bodyPost_ret (v := .tuple #[.agg #[.slice oc m cc, .int .i64 (c3 : Int)], .slice none 0 0, .int .i64 100]) (by simp [results, Tryz.results11, go_sem, r0, r1]) rfl ⟨Or.inl ⟨j, 100, c3, HJC.out, HJ.out.2, HJ.out.1, Or.inl ⟨⟨r, hrU, i, HIN.out.2.2.2.2.1, HIN.out.2.2.2.2.2, HD0.out⟩, rfl⟩, rfl⟩, hbe⟩
                      · have hq : ∀ w, (binOp .eql 25 (.agg #[.int .u64 ((limb 0 (dv) : Nat) : Int), .int .u64 ((limb 1 (dv) : Nat) : Int), .int .u64 ((limb 2 (dv) : Nat) : Int), .int .u64 ((limb 3 (dv) : Nat) : Int)]) (.agg #[.int .u64 0, .int .u64 0, .int .u64 0, .int .u64 0])).run Tryz.prog w = .ok (.bool false) w := fun w => by have h := eqlE2 dv 0 HDM.out M_pos w; rw [decide_eq_false hd0, zEq] at h; exact h
                        have HD0 : Hid (B i r ≠ 0) := by rw [← HUV.out.2]; exact hd0
                        obtain ⟨v, ev⟩ : ∃ z, z = V i r := ⟨_, rfl⟩
                        obtain ⟨a, ea⟩ : ∃ z, z = wv j r i := ⟨_, rfl⟩
                        obtain ⟨b, eb⟩ : ∃ z, z = wv j r (i + 1) := ⟨_, rfl⟩
                        have HV1 := HBY.out i r HIN.out.1 hrU HD0.out
                        have HM1 := HMV.out j r i HIN.out.2.2.2.2.1 HIN.out.2.2.2.2.2 hrU
                        rw [← HUV.out.1, ← HUV.out.2, ← ev] at HV1
                        rw [← ea, ← ev, ← eb] at HM1
                        have HV2 : Hid (∀ w, _) := HV1
                        have HM2 : Hid (∀ w, _) := HM1
                        rw [← ea] at g28
                        have HEB : Hid (b = wv j r (i + 1)) := eb
                        clear hd0 ev ea eb HV1 HM1
                        go_upto_region 33 with fail
                        clear hq c31 c22
                        refine wp_region_Z (fun w' => Below wf.heap.size wf w') 7 (by kernel_rfl) ?_
                        obtain ⟨wD, hD⟩ : ∃ x : World, x = wf.drew := ⟨_, rfl⟩
                        rw [← hD]
                        have hp0_0 : Below wf.heap.size wf wD := by rw [hD]; exact (Below.refl _ _).drew
                        have hlow0 : Below wf.heap.size wf wD := by rw [hD]; exact (Below.refl _ _).drew
                        clear hD
                        refine wpZ_take (i := 0) (v := .int .i64 si) 169 rfl rfl (by kernel_rfl) (by kernel_rfl) (by kernel_rfl) (Or.inl (by kernel_rfl)) (fun _ _ _ h => h) (Or.inl ⟨by rfl, fun w hSw => by go_simp⟩) hp0_0 ?_
                        simp only [Act.put, List.setIfInBounds_toArray]
                        dsimp only [List.set_cons_zero, List.set_cons_succ]
                        refine wpZ_take (i := 1) (v := .agg #[.int .u64 ((limb 0 (a) : Nat) : Int), .int .u64 ((limb 1 (a) : Nat) : Int), .int .u64 ((limb 2 (a) : Nat) : Int), .int .u64 ((limb 3 (a) : Nat) : Int)]) 170 rfl rfl (by kernel_rfl) (by kernel_rfl) (by kernel_rfl) (Or.inl (by kernel_rfl)) (fun _ _ _ h => h) (Or.inl ⟨by rfl, fun w hSw => by (have qq := (g28.belowAll hSw).cell; clear hSw; go_simp)⟩) hp0_0 ?_
                        simp only [Act.put, List.setIfInBounds_toArray]
                        dsimp only [List.set_cons_zero, List.set_cons_succ]
                        refine wpZ_take (i := 2) (v := .int .i64 si) 171 rfl rfl (by kernel_rfl) (by kernel_rfl) (by kernel_rfl) (Or.inl (by kernel_rfl)) (fun _ _ _ h => h) (Or.inl ⟨by rfl, fun w hSw => by go_simp⟩) hp0_0 ?_
                        simp only [Act.put, List.setIfInBounds_toArray]
                        dsimp only [List.set_cons_zero, List.set_cons_succ]
                        refine wpZ_take (i := 3) (v := .agg #[.int .u64 ((limb 0 (u) : Nat) : Int), .int .u64 ((limb 1 (u) : Nat) : Int), .int .u64 ((limb 2 (u) : Nat) : Int), .int .u64 ((limb 3 (u) : Nat) : Int)]) 172 rfl rfl (by kernel_rfl) (by kernel_rfl) (by kernel_rfl) (Or.inl (by kernel_rfl)) (fun _ _ _ h => h) (Or.inl ⟨by rfl, fun w hSw => by (have qq := (b30.belowAll hSw).cell; clear hSw; go_simp)⟩) hp0_0 ?_
                        simp only [Act.put, List.setIfInBounds_toArray]
                        dsimp only [List.set_cons_zero, List.set_cons_succ]
                        refine wpZ_take (i := 4) (v := .agg #[.int .u64 ((limb 0 (dv) : Nat) : Int), .int .u64 ((limb 1 (dv) : Nat) : Int), .int .u64 ((limb 2 (dv) : Nat) : Int), .int .u64 ((limb 3 (dv) : Nat) : Int)]) 173 rfl rfl (by kernel_rfl) (by kernel_rfl) (by kernel_rfl) (Or.inl (by kernel_rfl)) (fun _ _ _ h => h) (Or.inl ⟨by rfl, fun w hSw => by (have qq := (b31.belowAll hSw).cell; clear hSw; go_simp)⟩) hp0_0 ?_
                        simp only [Act.put, List.setIfInBounds_toArray]
                        dsimp only [List.set_cons_zero, List.set_cons_succ]
                        refine wpZ_one (i := 5) (by kernel_rfl) rfl (fun K hK => ?_)
                        go_simp
                        refine (HV2.out wD).mono ?_
                        rintro e wT1 ⟨rfl, hbT1⟩
                        have hlowT1 := bStep hlow0 hbT1
                        go_wp2_with fail
                        refine hK.out _ _ (fun _ => hlowT1) ?_
                        clear hK K hbT1
                        refine wpZ_one (i := 6) (by kernel_rfl) rfl (fun K hK => ?_)
                        go_simp
                        refine (HM2.out wT1).mono ?_
                        rintro e wT2 ⟨rfl, hbT2⟩
                        have hlowT2 := bStep hlowT1 hbT2
                        go_wp2_with fail
                        refine hK.out _ _ (fun _ => hlowT2) ?_
                        clear hK K hbT2
                        refine wpZ_one (i := 7) (by kernel_rfl) rfl (fun K hK => ?_)
                        have s5 := g28.belowAll hlowT2
                        have k5 := s5.cell; have f5 := s5.frozen
                        obtain ⟨w6, hw6, t5, hk6⟩ := s5.put4 b
                        go_simp
                        refine hK.out _ _ (fun h => absurd rfl h) ?_
                        clear hK K
                        refine wpZ_done (by kernel_rfl) ?_ _
                        have hb6 : Below wa.heap.size wa w6 := bKept (bStep (bStep hbd hbdf) hlowT2) (by rw [HE28.out]; exact Nat.le_refl _) hk6
                        rw [HEB.out] at t5
                        have HNI2 : Hid (∀ i', f2 ≤ i' → i' < i + 1 → B i' r ≠ 0) := fun i' h1 h2 => by
                          by_cases e : i' = i
                          · rw [e]; exact HD0.out
                          · exact HNI.out i' h1 (by omega)
                        have hE9 : EJ ≤ 8 := by have := HFE.out; omega
                        clear k5 f5 hk6 g28 b30 b31 s5 hlowT2 HEB hbd hbdf hbxd hbw hbwf env env2
                        go_wp2
                        go_roundw
                        case measure => simp [intOf]; omega
                        case rel => exact ⟨i + 1, by go_num, by omega, by omega, hb6, t5, HNI2⟩
                · have hii : ¬ (i : Int) < (EJ : Int) := by omega
                  have hiE : i = EJ := by omega
                  obtain ⟨pn, epn⟩ : ∃ z, z = zz j (r + 1) := ⟨_, rfl⟩
                  have d28' : Blk wd 25 N28 (fun t => limb t pn) := by
                    rw [epn, ← HZQ.out.2.2.1 j r (by rw [← HC.out.1]; exact hjc) hrU (fun i' h1 h2 => HNI.out i' (by have := HFE.out; omega) (by have := HFE.out; omega)), ← HFE.out.2.1, ← hiE]; exact d28
                  have HNB2 : Hid (∀ r', r' < r + 1 → ∀ i, 2 * j ≤ i → i < min (2 * j + 2) n → B i r' ≠ 0) := fun r' h i' h1 h2 => by
                    have h3 := HFE.out
                    by_cases e : r' = r
                    · rw [e]; exact HNI.out i' (by omega) (by omega)
                    · exact HNB.out r' (by omega) i' h1 h2
                  have HLS : Hid (zR (zz j) (r + 1) = LL ++ [pn]) := by show _ = _; rw [epn]; exact HLL.out.2.2.1
                  have own6 := HOZ.out.below hbd
                  have lB6 : BZ ≤ wd.heap.size := Nat.le_trans HBA.out.2 hbd.size
                  have hbBd : Below BZ wx wd := HBA.out.1.trans (hbd.mono HBA.out.2)
                  have hL31 : LL.length ≤ 31 := by have := HLL.out.1; have := HUP.out; omega
                  have k28 := d28'.cell
                  clear d28 d28' epn hbd HNI HNB HOZ hiE
                  go_wp2_with fail
                  refine (HEN.out wd).mono ?_
                  rintro e wy ⟨rfl, ey⟩
                  obtain rfl := ey.symm
                  clear ey
                  go_wp2_with (first
                    | (at_builtin; refine wpList_append_own _ rfl _ _ 26 rfl BZ 25 i0 (.agg #[.int .u64 0, .int .u64 0, .int .u64 0, .int .u64 0]) 4 32 Tryz.underlying26 HI.out HZ.out.1 HZ.out.2.1 HZ.out.2.2 rfl (by decide) _ _ _ rfl (own6.alloc _) ⟨wd.heap.size, 0, none⟩ 1 1 [.int .u64 ((limb 0 pn : Nat) : Int), .int .u64 ((limb 1 pn : Nat) : Int), .int .u64 ((limb 2 pn : Nat) : Int), .int .u64 ((limb 3 pn : Nat) : Int)] rfl rfl ?c1 ?c2 ?c3 ?c4 ?c5 ?_)
                    | go_in)
                  try
                    case c1 =>
                      intro j u hj
                      match j, hj with
                      | 0, hj => simp at hj; subst hj; simp [Addr.add]
                      | 1, hj => simp at hj; subst hj; simp [Addr.add]
                      | 2, hj => simp at hj; subst hj; simp [Addr.add]
                      | 3, hj => simp at hj; subst hj; simp [Addr.add]
                      | j + 4, hj => simp at hj
                  case c2 => first | exact ⟨rfl, rfl, rfl, rfl⟩ | (intro u hu; simp at hu; rcases hu with rfl | rfl | rfl | rfl <;> rfl)
                  case c3 => unfold maxLen; omega
                  case c4 => omega
                  case c5 => first | omega | (simp; omega)
                  intro v7 w7 own7' hgr7 _
                  have own7 := OwnL.push own7'
                  rw [← HLS.out] at own7
                  have hbg7 : Below BZ wd w7 := ((Below.refl _ wd).alloc lB6 _).grown hgr7 (by simp; omega) (fun j hj => own_block_geE own6 hj)
                  have lB7 : BZ ≤ w7.heap.size := Nat.le_trans lB6 hbg7.size
                  have hb7 := hbBd.trans hbg7
                  clear own6 own7' hgr7 hbg7 hbBd lB6 k28
                  go_wp2
                  go_roundw
                  case measure => simp [intOf]; omega
                  case rel => exact ⟨r + 1, by go_num, by omega, own7, hb7, lB7, HNB2⟩
            · have hri : ¬ (r : Int) < (U : Int) := by omega
              obtain rfl : U = r := by omega
              obtain ⟨s1, es1⟩ : ∃ z, z = st (j + 1) := ⟨_, rfl⟩
              have HNBJ : Hid (¬ badR n U B j) := fun ⟨r', h1, i, h2, h3, h4⟩ => HNB.out r' h1 i h2 h3 h4
              obtain ⟨LL, eLL⟩ : ∃ l, l = zR (zz j) U := ⟨_, rfl⟩
              have HLL : Hid (LL.length = U + 1 ∧ LL.getD U 0 = s1 ∧ LL = zR (zz j) U ∧ s1 = st (j + 1)) := by rw [eLL, es1, HZQ.out.2.2.2]; exact ⟨zR_len _ _, zR_at _ _, rfl, rfl⟩
              rw [← eLL] at oz
              clear eLL es1
              have hUl : (U : Int) < (LL.length : Int) := by have := HLL.out.1; omega
              have hU0 : (0 : Int) ≤ (U : Int) := by omega
              have hUL : U < LL.length := by have := HLL.out.1; omega
              have hes := oz.es
              rcases oz.2 with ⟨_, h0⟩ | ⟨zb, cap, cur, rfl, hbz, hgz, hcp, hcm, hcs, htk⟩
              · exact absurd h0 (by omega)
              rcases hes with ⟨hc0, _⟩ | ⟨zb', zo, c', hvz, _, _, lzb, hcl⟩
              · cases hc0
              cases hvz
              have z0 := hcl U hUL 0 (by decide); have z1 := hcl U hUL 1 (by decide); have z2 := hcl U hUL 2 (by decide); have z3 := hcl U hUL 3 (by decide)
              simp only [Nat.zero_add, Nat.add_zero] at z0 z1 z2 z3
              rw [HLL.out.2.1] at z0 z1 z2 z3
              have x24 : N24 < BZ := by rw [HBZ.out]; exact HEV.out.2.2.2.2
              have x13 : N13 < BZ := by have := HNN.out; omega
              have nq : N13 ≠ N24 := by have := HNN.out; omega
              have b24 := HEV.out.2.2.1.below hba x24
              have b13 := HEV.out.2.1.below hba x13
              have k24 := b24.cell; have f24 := b24.frozen
              obtain ⟨wb, hwb, t24, hk24⟩ := b24.put4 s1
              have t13 := b13.kept nq hk24
              have own0 : OwnL wb BZ (.slice (some ⟨zb, 0, none⟩) LL.length cap) (zR (zz j) U ++ coinL el (fun t => f (t + 3 * j)) 0) := by
                rw [show zR (zz j) U ++ coinL el (fun t => f (t + 3 * j)) 0 = LL by rw [HLL.out.2.2.1]; exact List.append_nil _]
                exact oz.keptB x24 hk24
              have kx0 : KX BZ N13 N24 wx wb := ((KX.refl wx).below hba).kept2 (by rw [HBZ.out]; exact Nat.le_refl _) hk24
              have lBb : BZ ≤ wb.heap.size := Nat.le_trans lBa hk24.size
              clear hcl hgz hcs htk hbz hcp hcm oz hba lBa hk24 b13
              go_wp2
              go_loopw [26] (fun zv wy => ∃ k : Nat, k ≤ 3 ∧ 3 * j + k ≤ m ∧ OwnL wy BZ zv (zR (zz j) U ++ coinL el (fun t => f (t + 3 * j)) k) ∧ Lay wy 37 N13 #[.slice oc m cc, .int .i64 ((3 * j + k : Nat) : Int)] ∧ KX BZ N13 N24 wx wy ∧ Blk wy 25 N24 (fun i => limb i s1) ∧ BZ ≤ wy.heap.size) (fun zv _ => P - lenQ zv)
              case atStart => exact ⟨0, by decide, HJ.out.1, own0, t13, kx0, t24, lBb⟩
              case round =>
                obtain ⟨k, hk3, hkm, own, d13, kx, d24, lB⟩ := hrel
                obtain ⟨wy, rfl⟩ : ∃ z, z = wr := ⟨_, rfl⟩
                clear own0 t13 kx0 t24 lBb k24 f24 z0 z1 z2 z3 b24
                have hll : (zR (zz j) U ++ coinL el (fun t => f (t + 3 * j)) k).length = U + 1 + k := by rw [List.length_append, zR_len, coinL_len]
                obtain ⟨ML, eML⟩ : ∃ l, l = zR (zz j) U ++ coinL el (fun t => f (t + 3 * j)) k := ⟨_, rfl⟩
                rw [← eML] at own hll
                have hes := own.es
                rcases own.2 with ⟨_, h0⟩ | ⟨yb, ycap, ycur, rfl, hyz, _⟩
                · omega
                rcases hes with ⟨hc0, _⟩ | ⟨yb', yo, c', hvz, _, _, lyb, _⟩
                · cases hc0
                cases hvz
                rw [hll]
                have own0 : Hid (OwnL wy BZ (.slice (some ⟨yb, 0, none⟩) (U + 1 + k) ycap) (zR (zz j) U ++ coinL el (fun t => f (t + 3 * j)) k)) := by rw [hll] at own; rw [← eML]; exact own
                obtain ⟨n1, en1⟩ : ∃ z, z = U + 1 + k := ⟨_, rfl⟩
                have HN1 : Hid (n1 = U + 1 + k) := en1
                rw [← en1] at own0
                rw [← en1]
                obtain ⟨kk, ekk⟩ : ∃ z, z = 3 * j + k := ⟨_, rfl⟩
                have HKK : Hid (kk = 3 * j + k) := ekk
                rw [← ekk] at d13
                clear en1 ekk hll own hyz eML
                have hbxy : Below w.heap.size w wy := HEV.out.2.2.2.1.trans (kx.low (by have := HNN.out; omega) (by have := HNN.out; omega) (by have := HNN.out; omega))
                by_cases hlt : k < 3
                · have hni : (n1 : Int) < (P : Int) := by have := HN1.out; have := HUP.out; omega
                  have HNI : Hid (n1 < P) := by have := HN1.out; have := HUP.out; show _ < _; omega
                  have q0 := d13.at (o := 0) rfl; have q1 := d13.at (o := 1) rfl
                  by_cases hmk : m ≤ kk
                  · go_wp2_with fail
                    refine (rnext_none oc m cc kk hmk wy).mono ?_
                    rintro e w3 ⟨rfl, hb3⟩
                    have d13b := d13.belowAll hb3
                    have kx3 := kx.below (hb3.mono lB)
                    go_upto_region 38 with fail
                    obtain ⟨w4, hw4⟩ : ∃ z : World, z = (w3.alloc (.cells #[.slice oc m cc, .int .i64 (kk : Int)] 37)).alloc (.cells #[.int .u64 0, .int .u64 0, .int .u64 0, .int .u64 0] 25) := ⟨_, rfl⟩
                    obtain ⟨N32, e32⟩ : ∃ z, z = w3.heap.size := ⟨_, rfl⟩
                    have b32 : Lay w4 37 N32 #[.slice oc m cc, .int .i64 (kk : Int)] := by rw [hw4]; exact (Lay.newAt _ _ _ e32).alloc _
                    have hb4 : Below w3.heap.size w3 w4 := by rw [hw4]; exact bAlloc (bAlloc (Below.refl _ _) _) _
                    have d13c := d13b.belowAll hb4
                    have kx4 := kx3.below (hb4.mono (Nat.le_trans lB hb3.size))
                    rw [← hw4]
                    try rw [← e32]
                    clear hw4 e32 q0 q1 d13 d13b hb3 hb4 kx3 kx
                    have q0 := b32.at (o := 0) rfl; have q1 := b32.at (o := 1) rfl
                    have f0 := d13c.frozen.1; have f1 := d13c.frozen.2
                    have p0 := d13c.at (o := 0) rfl; have p1 := d13c.at (o := 1) rfl
                    obtain ⟨w5, hw5, s13, hk5⟩ := d13c.put2 (.slice oc m cc) (.int .i64 (kk : Int))
                    have kx5 := kx4.kept1 (by rw [HBZ.out]; exact Nat.le_refl _) hk5
                    have env5 := HEV.out.1.kx kx5 (by rw [HBZ.out]; exact Nat.le_refl _) (by have := HNN.out; have := HEV.out.2.2.2.2; omega)
                    have hbx5 : Below w.heap.size w w5 := HEV.out.2.2.2.1.trans (kx5.low (by have := HNN.out; omega) (by have := HNN.out; omega) (by have := HNN.out; omega))
                    have s14 := env5.2.1
                    have a0' := s13.at (o := 0) rfl; have a1' := s13.at (o := 1) rfl
                    have g0 := s14.frozen.1; have g1 := s14.frozen.2
                    have r0 := s14.at (o := 0) rfl; have r1 := s14.at (o := 1) rfl
                    obtain ⟨w6, hw6, e14, hk6⟩ := s14.put2 (.slice oc m cc) (.int .i64 (kk : Int))
                    have hbe := bKept hbx5 (show w.heap.size ≤ N14 by have := HNN.out; omega) hk6
                    have t0 := e14.at (o := 0) rfl; have t1 := e14.at (o := 1) rfl
                    have HPO : Hid (RppE w w6 n U m cc oc B zz el f (.returned (.tuple #[.agg #[.slice oc m cc, .int .i64 (kk : Int)], .slice none 0 0, .int .i64 81]))) := Or.inl ⟨j, 81, kk, by rw [← HC.out.1]; exact hjc, HJ.out.2, HJ.out.1, Or.inr ⟨HNBJ.out, by have := HKK.out; omega, rfl⟩, rfl⟩
                    clear hk5 hk6 own0 kx4 kx5 env5 b32
                    go_wp2
                    refine bodyPost_ret (v := .tuple #[.agg #[.slice oc m cc, .int .i64 (kk : Int)], .slice none 0 0, .int .i64 81]) (by simp [results, Tryz.results11, go_sem, t0, t1]) rfl ⟨HPO.out, hbe⟩
                  · have hmk' : kk < m := by omega
                    have HNX := rnext_some oc m cc kk f hmk' HCZ.out.2 wy (HCZ.out.1.below hbxy)
                    obtain ⟨k1, ek1⟩ : ∃ z, z = kk + 1 := ⟨_, rfl⟩
                    have HOX : Hid (∀ w, Calls Tryz.prog 29 #[.int .i64 si, .agg #[.int .u64 ((limb 0 (f kk) : Nat) : Int), .int .u64 ((limb 1 (f kk) : Nat) : Int), .int .u64 ((limb 2 (f kk) : Nat) : Int), .int .u64 ((limb 3 (f kk) : Nat) : Int)]] w fun e w' => e = .returned (.agg #[.int .u64 ((limb 0 (el (f kk)) : Nat) : Int), .int .u64 ((limb 1 (el (f kk)) : Nat) : Int), .int .u64 ((limb 2 (el (f kk)) : Nat) : Int), .int .u64 ((limb 3 (el (f kk)) : Nat) : Int)]) ∧ Below w.heap.size w w') := HOF.out kk hmk'
                    have HLS : Hid (k1 = 3 * j + (k + 1) ∧ zR (zz j) U ++ coinL el (fun t => f (t + 3 * j)) (k + 1) = (zR (zz j) U ++ coinL el (fun t => f (t + 3 * j)) k) ++ [el (f kk)]) := ⟨by have := HKK.out; omega, by rw [coinL_succ, List.append_assoc, HKK.out, Nat.add_comm k (3 * j)]⟩
                    obtain ⟨x, ex⟩ : ∃ z, z = f kk := ⟨_, rfl⟩
                    rw [← ek1, ← ex] at HNX
                    rw [← ex] at HOX HLS
                    obtain ⟨y, ey⟩ : ∃ z, z = el x := ⟨_, rfl⟩
                    rw [← ey] at HOX HLS
                    have HLM : Hid ((zR (zz j) U ++ coinL el (fun t => f (t + 3 * j)) k).length = n1 ∧ n1 ≤ 31) := ⟨by rw [List.length_append, zR_len, coinL_len]; exact HN1.out.symm, by have := HN1.out; have := HUP.out; omega⟩
                    obtain ⟨L, eL⟩ : ∃ z, z = zR (zz j) U ++ coinL el (fun t => f (t + 3 * j)) k := ⟨_, rfl⟩
                    rw [← eL] at own0 HLS HLM
                    clear ek1 ex ey eL
                    go_wp2_with fail
                    refine HNX.mono ?_
                    rintro e w3 ⟨rfl, hb3⟩
                    have d13b := d13.belowAll hb3
                    have kx3 := kx.below (hb3.mono lB)
                    have d24b := d24.belowAll hb3
                    have own3 := own0.out.below hb3
                    have lB3 : BZ ≤ w3.heap.size := Nat.le_trans lB hb3.size
                    go_upto_region 38 with fail
                    obtain ⟨w4, hw4⟩ : ∃ z : World, z = (w3.alloc (.cells #[.slice oc m cc, .int .i64 (k1 : Int)] 37)).alloc (.cells #[.int .u64 ((limb 0 (x) : Nat) : Int), .int .u64 ((limb 1 (x) : Nat) : Int), .int .u64 ((limb 2 (x) : Nat) : Int), .int .u64 ((limb 3 (x) : Nat) : Int)] 25) := ⟨_, rfl⟩
                    obtain ⟨N32, e32⟩ : ∃ z, z = w3.heap.size := ⟨_, rfl⟩
                    obtain ⟨N33, e33⟩ : ∃ z, z = N32 + 1 := ⟨_, rfl⟩
                    have hsz : (w3.alloc (.cells #[.slice oc m cc, .int .i64 (k1 : Int)] 37)).heap.size = w3.heap.size + 1 := Array.size_push ..
                    have b32 : Lay w4 37 N32 #[.slice oc m cc, .int .i64 (k1 : Int)] := by rw [hw4]; exact (Lay.newAt _ _ _ e32).alloc _
                    have b33 : Blk w4 25 N33 (fun i => limb i x) := by rw [hw4]; exact Blk.newAt _ _ _ (fun i => limb i x) (by rw [e33, e32, hsz])
                    have hb4 : Below w3.heap.size w3 w4 := by rw [hw4]; exact bAlloc (bAlloc (Below.refl _ _) _) _
                    have d13c := d13b.belowAll hb4
                    have d24c := d24b.belowAll hb4
                    have kx4 := kx3.below (hb4.mono lB3)
                    have own4 := own3.below hb4
                    have lB4 : BZ ≤ w4.heap.size := Nat.le_trans lB3 hb4.size
                    have l33 : N33 ≠ N13 := by omega
                    rw [← hw4]
                    try rw [← e32]
                    try rw [← e33]
                    clear hw4 e32 e33 hsz q0 q1 d13 d13b d24 d24b hb3 hb4 kx3 kx own0 own3
                    have q0 := b32.at (o := 0) rfl; have q1 := b32.at (o := 1) rfl
                    have f0 := d13c.frozen.1; have f1 := d13c.frozen.2
                    have p0 := d13c.at (o := 0) rfl; have p1 := d13c.at (o := 1) rfl
                    obtain ⟨w5, hw5, s13, hk5⟩ := d13c.put2 (.slice oc m cc) (.int .i64 (k1 : Int))
                    have kx5 := kx4.kept1 (by rw [HBZ.out]; exact Nat.le_refl _) hk5
                    have d245 := d24c.kept nq.symm hk5
                    have own5 := own4.keptB x13 hk5
                    have b335 := b33.kept l33 hk5
                    have lB5 : BZ ≤ w5.heap.size := Nat.le_trans lB4 hk5.size
                    have c33 := b335.cell
                    clear hk5 own4 d24c b33 kx4
                    go_wp2_with fail
                    refine (HOX.out w5).mono ?_
                    rintro e w6 ⟨rfl, hb6⟩
                    have own60 := own5.below hb6
                    have s136 := s13.belowAll hb6
                    have d246 := d245.belowAll hb6
                    have kx6 := kx5.below (hb6.mono lB5)
                    have lB6 : BZ ≤ w6.heap.size := Nat.le_trans lB5 hb6.size
                    have hLn : L.length = n1 := HLM.out.1
                    have hL31 : L.length ≤ 31 := by have := HLM.out.2; omega
                    have own6 : OwnL w6 BZ (.slice (some ⟨yb, 0, none⟩) L.length ycap) L := by rw [hLn]; exact own60
                    rw [← hLn]
                    clear q0 q1 f0 f1 p0 p1 hw5 c33 own5 s13 kx5 lB5 hb6 b335 d13c b32 own60 hLn hni d245
                    go_wp2_with (first
                      | (at_builtin; refine wpList_append_own _ rfl _ _ 26 rfl BZ 25 i0 (.agg #[.int .u64 0, .int .u64 0, .int .u64 0, .int .u64 0]) 4 32 Tryz.underlying26 HI.out HZ.out.1 HZ.out.2.1 HZ.out.2.2 rfl (by decide) _ _ _ rfl (own6.alloc _) ⟨w6.heap.size, 0, none⟩ 1 1 [.int .u64 ((limb 0 y : Nat) : Int), .int .u64 ((limb 1 y : Nat) : Int), .int .u64 ((limb 2 y : Nat) : Int), .int .u64 ((limb 3 y : Nat) : Int)] rfl rfl ?c1 ?c2 ?c3 ?c4 ?c5 ?_)
                      | go_in)
                    try
                      case c1 =>
                        intro j u hj
                        match j, hj with
                        | 0, hj => simp at hj; subst hj; simp [Addr.add]
                        | 1, hj => simp at hj; subst hj; simp [Addr.add]
                        | 2, hj => simp at hj; subst hj; simp [Addr.add]
                        | 3, hj => simp at hj; subst hj; simp [Addr.add]
                        | j + 4, hj => simp at hj
                    case c2 => first | exact ⟨rfl, rfl, rfl, rfl⟩ | (intro u hu; simp at hu; rcases hu with rfl | rfl | rfl | rfl <;> rfl)
                    case c3 => unfold maxLen; omega
                    case c4 => omega
                    case c5 => first | omega | (simp; omega)
                    intro v7 w7 own7' hgr7 _
                    have own7 := OwnL.push own7'
                    have hbg7 : Below BZ w6 w7 := ((Below.refl _ w6).alloc lB6 _).grown hgr7 (by simp; omega) (fun j hj => own_block_geE own6 hj)
                    have lB7 : BZ ≤ w7.heap.size := Nat.le_trans lB6 hbg7.size
                    have s137 := s136.below hbg7 x13
                    have d247 := d246.below hbg7 x24
                    have kx7 := kx6.below hbg7
                    have hlv : lenQ v7 = n1 + 1 := by rw [OwnL.lenQ own7 (by simp), List.length_append, HLM.out.1]; rfl
                    rw [← HLS.out.2] at own7
                    rw [HLS.out.1] at s137
                    have HK1 : Hid (k + 1 ≤ 3 ∧ 3 * j + (k + 1) ≤ m) := by have := HLS.out.1; have := HKK.out; exact ⟨by omega, by omega⟩
                    clear own6 own7' hgr7 hbg7 s136 d246 kx6 lB6 HLS
                    go_wp2
                    go_roundw
                    case measure =>
                      rw [hlv]
                      show P - (n1 + 1) < P - n1
                      have := HNI.out
                      omega
                    case rel => exact ⟨k + 1, HK1.out.1, HK1.out.2, own7, s137, kx7, d247, lB7⟩
                · have hni : ¬ (n1 : Int) < (P : Int) := by have := HN1.out; have := HUP.out; omega
                  have hk3' : k = 3 := by omega
                  obtain ⟨gO, hgO, hgN⟩ := HON.out
                  have hgb := HOO.out.lt gO hgO
                  rw [← HBZ.out] at hgb
                  have hgx : gO ≠ N13 := by have := HNN.out; omega
                  have ooY : wy.ownsRow NO 26 1 ov j ((List.range j).map zs) := own_sameG HOO.out (fun k hk => by
                    rw [hgO] at hk
                    cases hk
                    exact kx.2.2.2.2 gO hgb.2 hgx hgN)
                  have env := HEV.out.1.kx kx (by rw [HBZ.out]; exact Nat.le_refl _) (by have := HNN.out; have := HEV.out.2.2.2.2; omega)
                  have lNO : NO ≤ wy.heap.size := by have := HNN.out; omega
                  have hj8 : j ≤ 4 := by have := HC.out.2; omega
                  obtain ⟨zv, ezv⟩ : ∃ z, z = Value.slice (some ⟨yb, 0, none⟩) n1 ycap := ⟨_, rfl⟩
                  have HZV : Hid (zv = Value.slice (some ⟨yb, 0, none⟩) n1 ycap) := ezv
                  have ownZ : Hid (OwnL wy BZ zv (zR (zz j) U ++ coinL el (fun t => f (t + 3 * j)) 3)) := by
                    have h := own0.out
                    rw [hk3'] at h
                    rw [ezv]
                    exact h
                  have HGO : Hid (ov.ownBlock = some gO) := hgO
                  have HK3 : Hid (k = 3) := hk3'
                  clear own0 hgO hk3' ezv
                  go_wp2_with (first
                    | (at_builtin; refine wpList_append_keep2 _ rfl _ _ 22 rfl NO 26 i1 (.slice none 0 0) 1 24 Tryz.underlying22 HIT.out HZT.out.1 HZT.out.2.1 HZT.out.2.2 rfl (by decide) _ _ _ rfl (ownsRow_below ooY (bAlloc (Below.refl _ _) _)) ⟨wy.heap.size, 0, none⟩ 1 1 [Value.slice (some ⟨yb, 0, none⟩) n1 ycap] rfl rfl ?c1 ?c2 ?c3 ?c4 ?c5 ?_)
                    | go_in)
                  try
                    case c1 =>
                      intro j u hj
                      match j, hj with
                      | 0, hj => simp at hj; subst hj; simp [Addr.add]
                      | j + 1, hj => simp at hj
                  case c2 => first | rfl | (intro u hu; simp at hu; subst hu; rfl)
                  case c3 => unfold maxLen; omega
                  case c4 => omega
                  case c5 => first | omega | (simp; omega)
                  intro v7 w7 own7 hgr7 hkp7
                  have hgO := HGO.out
                  have ezv := HZV.out
                  have hk3' := HK3.out
                  have l24 := d24.lt
                  rw [← ezv] at own7
                  have hsz7 : (wy.alloc (.cells #[Value.slice (some ⟨yb, 0, none⟩) n1 ycap] 26)).heap.size = wy.heap.size + 1 := Array.size_push ..
                  have hsame : ∀ k, k < wy.heap.size → ov.ownBlock ≠ some k → w7.heap[k]? = wy.heap[k]? := fun k hk hne => (hgr7.block k (by rw [hsz7]; omega) (fun e => hne e.symm)).trans ((bAlloc (Below.refl _ wy) _).block k hk)
                  have hb7 : Below NO wy w7 := ((Below.refl _ wy).alloc lNO _).grown hgr7 (by rw [hsz7]; omega) (fun q hq => own_block_geE ooY hq)
                  have hnew : ∀ g', v7.ownBlock = some g' → g' = gO ∨ wy.heap.size < g' := fun g' h => by
                    rcases (hkp7 gO hgO).2 g' h with h | h
                    · exact Or.inl h
                    · (try rw [hsz7] at h); exact Or.inr (by omega)
                  have lxy : wx.heap.size ≤ wy.heap.size := kx.2.2.2.1
                  obtain ⟨gN, hgNew⟩ := own_hasG own7 (by omega)
                  have hgN2 : gN ≠ N24 := by
                    rcases hnew gN hgNew with h | h
                    · rw [h]; exact hgN
                    · omega
                  have env7 : RpEnv w1 w7 N13 N14 N22 pg po P pt := env.same (hb7.mono (by have := HNN.out; omega)) (hb7.block _ (by have := HNN.out; omega)) (hb7.block _ (by have := HNN.out; omega)) (hb7.block _ (by have := HNN.out; omega))
                  have d137 : Lay w7 37 N13 #[.slice oc m cc, .int .i64 ((3 * (j + 1) : Nat) : Int)] := by
                    have h := d13.below hb7 (by have := HNN.out; omega)
                    rw [show kk = 3 * (j + 1) by have := HKK.out; omega] at h
                    exact h
                  have d247 : Blk w7 25 N24 (fun i => limb i (st (j + 1))) := by
                    rw [← HLL.out.2.2.2]
                    unfold Blk at d24 ⊢
                    rw [hsame N24 l24 (by rw [hgO]; intro h; exact hgN (Option.some.inj h))]
                    exact d24
                  have hZ7 : ZsOk w7 (N24 + 1) (j + 1) (fun i => if i = j then zv else zs i) v7 (fun i => zR (zz i) U ++ coinL el (fun t => f (t + 3 * i)) 3) := by
                    intro i hi
                    dsimp only
                    by_cases e : i = j
                    · subst e
                      rw [if_pos rfl]
                      have hzb : zv.ownBlock = some yb := by rw [ezv]; rfl
                      have hzl := ownZ.out.lt yb hzb
                      have hne : ov.ownBlock ≠ some yb := by rw [hgO]; intro h; have := Option.some.inj h; omega
                      refine ⟨(ownL_base ownZ.out (by omega)).same (fun k hk => by rw [hzb] at hk; cases hk; exact hsame yb hzl.2 hne), yb, hzb, fun h => ?_⟩
                      rcases hnew yb h with h | h
                      · exact hne (by rw [h]; exact hgO)
                      · have := hzl.2; omega
                    · rw [if_neg e]
                      obtain ⟨h1, kb, h2, h3⟩ := HZS.out i (by omega)
                      have hl := h1.lt kb h2
                      have hl2 : kb < BZ := by rw [HBZ.out]; exact hl.2
                      refine ⟨h1.same (fun k hk => by rw [h2] at hk; cases hk; exact (hsame kb (by omega) h3).trans (kx.2.2.2.2 kb hl2 (by have := HNN.out; omega) (by omega))), kb, h2, fun h => ?_⟩
                      rcases hnew kb h with h | h
                      · exact h3 (by rw [h]; exact hgO)
                      · omega
                  have HJ7 : Hid (3 * (j + 1) ≤ m ∧ ∀ i, i < j + 1 → ¬ badR n U B i) := ⟨by omega, fun i hi => by
                    by_cases e : i = j
                    · rw [e]; exact HNBJ.out
                    · exact HJ.out.2 i (by omega)⟩
                  have HON7 : Hid (∃ k, v7.ownBlock = some k ∧ k ≠ N24) := ⟨gN, hgNew, hgN2⟩
                  have HZ7 : Hid (ZsOk w7 (N24 + 1) (j + 1) (fun i => if i = j then zv else zs i) v7 (fun i => zR (zz i) U ++ coinL el (fun t => f (t + 3 * i)) 3)) := hZ7
                  have hbx7 : Below w.heap.size w w7 := hbxy.trans (hb7.mono (by have := HNN.out; omega))
                  rw [← map_upd] at own7
                  clear hgr7 hkp7 hsame hnew hZ7 hb7 env ooY kx d13 d24 hbxy hsz7 ownZ ezv HZV HGO HK3 hgO hk3' l24
                  go_wp2
                  go_roundw
                  case measure => simp [intOf]; omega
                  case rel => exact ⟨j + 1, _, by go_num, by omega, HJ7, env7, d137, d247, own7, HON7, HZ7, hbx7⟩
        · have hji : ¬ (j : Int) < (C : Int) := by omega
          have hjC : j = C := by omega
          subst hjC
          go_wp2_with fail
          refine (HCH.out wx).mono ?_
          rintro e wy ⟨rfl, ey⟩
          obtain rfl := ey.symm
          clear ey
          obtain ⟨c3, ec3⟩ : ∃ z, z = 3 * j := ⟨_, rfl⟩
          have b14 := env.2.1
          rw [← ec3] at c13
          have HFI : Hid (∀ w9, Kept N14 wx w9 → RppE w w9 n U m cc oc B zz el f (.returned (.tuple #[.agg #[.slice oc m cc, .int .i64 (c3 : Int)], ov, .int .i64 0]))) := fun w9 hk => by
            unfold RppE
            rw [← HC.out.1, ← ec3]
            exact Or.inr ⟨HJ.out.2, by have := HJ.out.1; omega, ov, zs, rfl, own_baseG (own_sameG oo (fun k hk' => hk.block k (oo.lt k hk').2 (by have h1 := (oo.lt k hk').1; have h2 := HNN.out; omega))) (by have := HNN.out; omega), fun i hi => ownL_base ((HZS.out i hi).1.keptB (by have := HNN.out; omega) hk) (by have := HNN.out; omega)⟩
          clear ec3 env oo hjc hj HON c24
          have q0 := c13.at (o := 0) rfl; have q1 := c13.at (o := 1) rfl
          have f0 := b14.frozen.1; have f1 := b14.frozen.2
          obtain ⟨p0v, p0⟩ : ∃ v, wx.cell? ⟨N14, 0, none⟩ = some v := ⟨_, b14.at (o := 0) rfl⟩
          obtain ⟨p1v, p1⟩ : ∃ v, wx.cell? ⟨N14, 1, none⟩ = some v := ⟨_, b14.at (o := 1) rfl⟩
          obtain ⟨w9, hw9, e9, hk9⟩ := b14.put2 (.slice oc m cc) (.int .i64 (c3 : Int))
          have hbe := bKept hbx (show w.heap.size ≤ N14 by have := HNN.out; omega) hk9
          have r0 := e9.at (o := 0) rfl; have r1 := e9.at (o := 1) rfl
          have hk9' := hk9
          clear hk9 b14
          go_wp2
          refine bodyPost_ret (v := .tuple #[.agg #[.slice oc m cc, .int .i64 (c3 : Int)], ov, .int .i64 0]) (by simp [results, Tryz.results11, go_sem, r0, r1]) rfl ⟨HFI.out w9 hk9', hbe⟩
end Go.Proofs.YtfbfenljfdnggaaGreatDoor
