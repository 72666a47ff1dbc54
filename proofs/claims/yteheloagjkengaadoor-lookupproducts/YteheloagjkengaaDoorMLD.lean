/- The reference of layer 17: below, rising. -/
import Derived.Test.YteheloagjkengaaDoorMLC
namespace Go.Proofs.YteheloagjkengaaDoor
open Go.RowKit

theorem ownsRow_below {w w' : World} {base : Nat} {e : TypeId} {size : Nat} {v : Value} {n : Nat} {xs : List Value} (h : w.ownsRow base e size v n xs) (hb : Below w.heap.size w w') : w'.ownsRow base e size v n xs := by
  obtain ⟨h1, h2⟩ := h
  refine ⟨h1, ?_⟩
  rcases h2 with h2 | ⟨g, cap, cur, h3, h4, h5, h6⟩
  · exact Or.inl h2
  · refine Or.inr ⟨g, cap, cur, h3, h4, ?_, h6⟩
    have hgl : g < w.heap.size := by
      rcases Nat.lt_or_ge g w.heap.size with hl | hl
      · exact hl
      · rw [Array.getElem?_eq_none hl] at h5; cases h5
    rw [hb.block g hgl]; exact h5
/-- v is a list of the call's own: l. -/
def OwnL (w : World) (base : Nat) (v : Value) (l : List Nat) : Prop := w.ownsRow base 25 4 v l.length (els (fun i => l.getD i 0) l.length)
theorem els_push (l : List Nat) (x : Nat) : els (fun i => l.getD i 0) l.length ++ [.int .u64 ((limb 0 x : Nat) : Int), .int .u64 ((limb 1 x : Nat) : Int), .int .u64 ((limb 2 x : Nat) : Int), .int .u64 ((limb 3 x : Nat) : Int)] = els (fun i => (l ++ [x]).getD i 0) (l ++ [x]).length := by
  rw [List.length_append, List.length_singleton, els_succ]
  congr 1
  · refine els_congr (fun i hi => ?_)
    rw [List.getD_eq_getElem?_getD, List.getD_eq_getElem?_getD, List.getElem?_append_left hi]
  · simp [List.getD_eq_getElem?_getD]
theorem OwnL.push {w : World} {base : Nat} {v : Value} {l : List Nat} {x : Nat} (h : w.ownsRow base 25 4 v (l.length + 1) (els (fun i => l.getD i 0) l.length ++ [.int .u64 ((limb 0 x : Nat) : Int), .int .u64 ((limb 1 x : Nat) : Int), .int .u64 ((limb 2 x : Nat) : Int), .int .u64 ((limb 3 x : Nat) : Int)])) : OwnL w base v (l ++ [x]) := by
  unfold OwnL
  rw [els_push] at h
  rw [List.length_append, List.length_singleton] at h ⊢
  exact h
theorem OwnL.es {w : World} {base : Nat} {v : Value} {l : List Nat} (h : OwnL w base v l) : Es w v l.length (fun i => l.getD i 0) := own_Es h
theorem OwnL.below {w w' : World} {base : Nat} {v : Value} {l : List Nat} (h : OwnL w base v l) (hb : Below w.heap.size w w') : OwnL w' base v l := ownsRow_below h hb
theorem OwnL.alloc {w : World} {base : Nat} {v : Value} {l : List Nat} (h : OwnL w base v l) (o : Obj) : OwnL (w.alloc o) base v l := h.below (bAlloc (Below.refl _ _) _)
theorem OwnL.none (w : World) (base : Nat) (hb : base ≤ w.heap.size) : OwnL (w.alloc (.cells #[] 25)) base (.slice (some ⟨w.heap.size, 0, none⟩) 0 0) [] :=
  ⟨rfl, Or.inr ⟨w.heap.size, 0, #[], rfl, hb, new_blockE _ _, Nat.le_refl _, by decide, rfl, rfl⟩⟩
/-- v put into the first j of a list: what there is so far, and whether v is among it. -/
def InsS (v : Nat) (l : List Nat) (j : Nat) (a : List Nat) (p : Bool) : Prop :=
  (p = false ∧ ins v l = a ++ ins v (l.drop j)) ∨ (p = true ∧ ins v l = a ++ l.drop j)
theorem drop_at {l : List Nat} {j : Nat} (h : j < l.length) : l.drop j = l.getD j 0 :: l.drop (j + 1) := by
  rw [List.drop_eq_getElem_cons h, List.getD_eq_getElem?_getD, List.getElem?_eq_getElem h]; rfl
theorem InsS.start (v : Nat) (l : List Nat) : InsS v l 0 [] false := Or.inl ⟨rfl, rfl⟩
theorem InsS.hit {v : Nat} {l : List Nat} {j : Nat} {a : List Nat} (h : InsS v l j a false) (hj : j < l.length) (hv : v < l.getD j 0) : InsS v l (j + 1) ((a ++ [v]) ++ [l.getD j 0]) true := by
  rcases h with ⟨_, h⟩ | ⟨h, _⟩
  · refine Or.inr ⟨rfl, ?_⟩
    rw [h, drop_at hj]
    show a ++ (if v < l.getD j 0 then _ else _) = _
    rw [if_pos hv, List.append_assoc, List.append_assoc]; rfl
  · cases h
theorem InsS.past {v : Nat} {l : List Nat} {j : Nat} {a : List Nat} (h : InsS v l j a false) (hj : j < l.length) (hv : ¬ v < l.getD j 0) : InsS v l (j + 1) (a ++ [l.getD j 0]) false := by
  rcases h with ⟨_, h⟩ | ⟨h, _⟩
  · refine Or.inl ⟨rfl, ?_⟩
    rw [h, drop_at hj]
    show a ++ (if v < l.getD j 0 then _ else _) = _
    rw [if_neg hv, List.append_assoc]; rfl
  · cases h
theorem InsS.on {v : Nat} {l : List Nat} {j : Nat} {a : List Nat} (h : InsS v l j a true) (hj : j < l.length) : InsS v l (j + 1) (a ++ [l.getD j 0]) true := by
  rcases h with ⟨h, _⟩ | ⟨_, h⟩
  · cases h
  · refine Or.inr ⟨rfl, ?_⟩
    rw [h, drop_at hj, List.append_assoc]; rfl
theorem InsS.endF {v : Nat} {l : List Nat} {a : List Nat} (h : InsS v l l.length a false) : a ++ [v] = ins v l := by
  rcases h with ⟨_, h⟩ | ⟨h, _⟩
  · rw [h, List.drop_length]; rfl
  · cases h
theorem InsS.endT {v : Nat} {l : List Nat} {a : List Nat} (h : InsS v l l.length a true) : a = ins v l := by
  rcases h with ⟨h, _⟩ | ⟨_, h⟩
  · cases h
  · rw [h, List.drop_length, List.append_nil]
theorem rsg_step (n : Nat) (f : Nat → Nat) : rsg (fl (n + 1) f) = ins (f n) (rsg (fl n f)) := by
  unfold rsg
  rw [fl_succ, List.foldl_append]; rfl

theorem ownL_base {w : World} {base b2 : Nat} {v : Value} {l : List Nat} (h : OwnL w b2 v l) (hb : base ≤ b2) : OwnL w base v l := by
  obtain ⟨h1, h2⟩ := h
  refine ⟨h1, ?_⟩
  rcases h2 with h2 | ⟨g, c, cur, e1, e2, e3⟩
  · exact Or.inl h2
  · exact Or.inr ⟨g, c, cur, e1, Nat.le_trans hb e2, e3⟩
end Go.Proofs.YteheloagjkengaaDoor

/- The reference's Permute. -/
namespace Go.Proofs.YteheloagjkengaaDoor
open Go.RowKit

theorem els_append (f g : Nat → Nat) (n m : Nat) : els f n ++ els g m = els (fun i => if i < n then f i else g (i - n)) (n + m) := by
  unfold els
  rw [Nat.add_mul, List.range_add, List.map_append, List.map_map]
  congr 1
  · refine List.map_congr_left fun t ht => ?_
    have h : t < n * 4 := by simpa using ht
    dsimp only
    rw [if_pos (by omega)]
  · refine List.map_congr_left fun t ht => ?_
    have h : t < m * 4 := by simpa using ht
    show _ = Value.int .u64 ((limb ((n * 4 + t) % 4) (if (n * 4 + t) / 4 < n then f ((n * 4 + t) / 4) else g ((n * 4 + t) / 4 - n)) : Nat) : Int)
    rw [if_neg (by omega), show (n * 4 + t) % 4 = t % 4 by omega, show (n * 4 + t) / 4 - n = t / 4 by omega]
theorem OwnL.join {w : World} {base m : Nat} {v : Value} {l r : List Nat} (hm : r.length = m) (h : w.ownsRow base 25 4 v (l.length + m) (els (fun i => l.getD i 0) l.length ++ els (fun i => r.getD i 0) r.length)) : OwnL w base v (l ++ r) := by
  subst hm
  unfold OwnL
  rw [els_append, ← List.length_append] at h
  rw [els_congr (g := fun i => (l ++ r).getD i 0) (fun i hi => ?_)] at h
  · exact h
  · rw [List.length_append] at hi
    rw [List.getD_eq_getElem?_getD (l := l ++ r)]
    by_cases c : i < l.length
    · rw [if_pos c, List.getElem?_append_left c, List.getD_eq_getElem?_getD]
    · rw [if_neg c, List.getElem?_append_right (by omega), List.getD_eq_getElem?_getD]
/-- The cells of a part of a list that lies somewhere. -/
theorem part_cells {w : World} {b o n q m : Nat} {f : Nat → Nat} {r : List Nat} (hc : ∀ i, i < n → ∀ j, j < 4 → w.cell? ⟨b, o + i * 4 + j, none⟩ = some (.int .u64 ((limb j (f i) : Nat) : Int))) (hm : r.length = m) (hq : q + m ≤ n) (hr : ∀ i, i < m → r.getD i 0 = f (q + i)) :
    ∀ j u, (els (fun i => r.getD i 0) r.length)[j]? = some u → w.cell? ((⟨b, o + q * 4, none⟩ : Addr).add j) = some u := by
  intro j u hu
  have hj : j < m * 4 := by
    have := (List.getElem?_eq_some_iff.1 hu).1
    rwa [els_len, hm] at this
  have e := els_get (fun i => r.getD i 0) r.length (j / 4) (j % 4) (by omega) (by omega)
  rw [show j / 4 * 4 + j % 4 = j by omega, hu] at e
  cases e
  rw [Addr.add_lit, show o + q * 4 + j = o + (q + j / 4) * 4 + j % 4 by omega]
  rw [hr (j / 4) (by omega)]
  exact hc _ (by omega) _ (by omega)
theorem Es.congr {w : World} {v : Value} {n : Nat} {f g : Nat → Nat} (h : Es w v n f) (hg : ∀ i, i < n → g i = f i) : Es w v n g := by
  rcases h with h | ⟨b, o, c, hv, h1, h2, h3, h4⟩
  · exact Or.inl h
  · exact Or.inr ⟨b, o, c, hv, h1, h2, h3, fun i hi j hj => by rw [hg i hi]; exact h4 i hi j hj⟩
/-- What the reference's Permute answers. -/
def RPrmE (a : List Nat) (r : Option (List Nat)) (n : Nat) (e : Ending) (w' : World) : Prop :=
  (r = none ∧ e = .returned (.tuple #[.slice none 0 0, .slice none 0 0, .int .i64 200])) ∨ ∃ (t : List Nat) (v u : Value), r = some t ∧ e = .returned (.tuple #[v, u, .int .i64 0]) ∧ Es w' v n (fun i => a.getD i 0) ∧ Es w' u n (mtF a t)
theorem isF_k {a : List Nat} {i : Nat} (h : i ≠ 0) : isF a i = !decide (a.getD i 0 = a.getD (i - 1) 0) := by
  unfold isF; rw [decide_eq_false h, Bool.false_or]
end Go.Proofs.YteheloagjkengaaDoor

/- The reference's Compress. -/
namespace Go.Proofs.YteheloagjkengaaDoor
open Go.RowKit

/-- What the second reference's sums and products answer. -/
def RFld (si : Int) (ad mu : Nat → Nat → Nat) : Prop :=
  (∀ a b, ad a b < 115792089237316195423570985008687907853269984665640564039457584007913129639936 ∧ mu a b < 115792089237316195423570985008687907853269984665640564039457584007913129639936) ∧ (∀ a b, a < 115792089237316195423570985008687907853269984665640564039457584007913129639936 → b < 115792089237316195423570985008687907853269984665640564039457584007913129639936 → ∀ w, Calls Tryd.prog 32 #[.int .i64 si, .agg #[.int .u64 ((limb 0 (a) : Nat) : Int), .int .u64 ((limb 1 (a) : Nat) : Int), .int .u64 ((limb 2 (a) : Nat) : Int), .int .u64 ((limb 3 (a) : Nat) : Int)], .agg #[.int .u64 ((limb 0 (b) : Nat) : Int), .int .u64 ((limb 1 (b) : Nat) : Int), .int .u64 ((limb 2 (b) : Nat) : Int), .int .u64 ((limb 3 (b) : Nat) : Int)]] w fun e w' => e = .returned (.agg #[.int .u64 ((limb 0 (ad a b) : Nat) : Int), .int .u64 ((limb 1 (ad a b) : Nat) : Int), .int .u64 ((limb 2 (ad a b) : Nat) : Int), .int .u64 ((limb 3 (ad a b) : Nat) : Int)]) ∧ Below w.heap.size w w') ∧
  (∀ a b, a < 115792089237316195423570985008687907853269984665640564039457584007913129639936 → b < 115792089237316195423570985008687907853269984665640564039457584007913129639936 → ∀ w, Calls Tryd.prog 20 #[.int .i64 si, .agg #[.int .u64 ((limb 0 (a) : Nat) : Int), .int .u64 ((limb 1 (a) : Nat) : Int), .int .u64 ((limb 2 (a) : Nat) : Int), .int .u64 ((limb 3 (a) : Nat) : Int)], .agg #[.int .u64 ((limb 0 (b) : Nat) : Int), .int .u64 ((limb 1 (b) : Nat) : Int), .int .u64 ((limb 2 (b) : Nat) : Int), .int .u64 ((limb 3 (b) : Nat) : Int)]] w fun e w' => e = .returned (.agg #[.int .u64 ((limb 0 (mu a b) : Nat) : Int), .int .u64 ((limb 1 (mu a b) : Nat) : Int), .int .u64 ((limb 2 (mu a b) : Nat) : Int), .int .u64 ((limb 3 (mu a b) : Nat) : Int)]) ∧ Below w.heap.size w w')
theorem rfld_in (s : Nat) (hs : s < 4) : RFld (s : Int) (addP s) (mulP s) :=
  ⟨fun a b => ⟨addP_M s a b, mulP_M s a b⟩, fun a b ha hb w => ref2Add_any s a b hs ha hb w, fun a b ha hb w => ref2Mul_any s a b hs ha hb w⟩
theorem rfld_out (s : Int) (hs : s < 0 ∨ 4 ≤ s) : RFld s (fun _ _ => 0) (fun _ _ => 0) := by
  refine ⟨fun _ _ => ⟨M_pos, M_pos⟩, fun a b _ _ w => ?_, fun a b _ _ w => ?_⟩
  · rw [zE]; exact ref2Add_out s hs a b w
  · rw [zE]; exact ref2Mul_out s hs a b w
end Go.Proofs.YteheloagjkengaaDoor

