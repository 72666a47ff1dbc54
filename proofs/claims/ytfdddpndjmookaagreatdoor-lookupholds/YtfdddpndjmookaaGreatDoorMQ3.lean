/- The reference's Coins.Next. -/
import Derived.Test.YtfdddpndjmookaaGreatDoorMQ2
namespace Go.Proofs.YtfdddpndjmookaaGreatDoor
open Go.RowKit

theorem Lay.frozen {w : World} {t : TypeId} {b : Nat} {cs : Array Value} (h : Lay w t b cs) : w.frozen? ⟨b, 0, none⟩ = false ∧ w.frozen? ⟨b, 1, none⟩ = false := by unfold Lay at h; simp [World.frozen?, h]
theorem Lay.kept {w w' : World} {t : TypeId} {b g : Nat} {cs : Array Value} (h : Lay w t b cs) (hne : b ≠ g) (hk : Kept g w w') : Lay w' t b cs := by unfold Lay; rw [hk.block b h.lt hne]; exact h
theorem Lay.put2 {w : World} {t : TypeId} {b : Nat} {x0 x1 : Value} (h : Lay w t b #[x0, x1]) (v0 v1 : Value) : ∃ w', (w.setCell ⟨b, 0, none⟩ v0).setCell ⟨b, 1, none⟩ v1 = w' ∧ Lay w' t b #[v0, v1] ∧ Kept b w w' :=
  ⟨_, rfl, by unfold Lay at h ⊢; simp [World.setCell, Array.getElem?_modify, h], ((Kept.refl _ _).setCell 0 _).setCell 1 _⟩
theorem Lay.put1 {w : World} {t : TypeId} {b : Nat} {x0 x1 : Value} (h : Lay w t b #[x0, x1]) (v1 : Value) : ∃ w', w.setCell ⟨b, 1, none⟩ v1 = w' ∧ Lay w' t b #[x0, v1] ∧ Kept b w w' :=
  ⟨_, rfl, by unfold Lay at h ⊢; simp [World.setCell, Array.getElem?_modify, h], (Kept.refl _ _).setCell 1 _⟩
end Go.Proofs.YtfdddpndjmookaaGreatDoor

/- Append to a list of one's own: what lay in the old block lies there still. -/
namespace Go.Proofs.YtfdddpndjmookaaGreatDoor
open Go.RowKit

theorem run_append_keep (w : World) (base : Nat) (t ty e : TypeId) (i : TypeInfo) (z : Value) (size bytes : Nat) (ht : Tryz.prog.underlying t = some (.slice e)) (hi : Tryz.prog.info? e = some i) (hz : i.zero = some z)
    (hsize : i.size = size) (hby : i.bytes = bytes) (hzs : z.cells.size = size) (hsz : 0 < size)
    (v : Value) (n : Nat) (xs : List Value) (hown : w.ownsRow base e size v n xs)
    (a : Addr) (m c : Nat) (news : List Value) (hl : news.length = m * size) (hnews : ∀ j u, news[j]? = some u → w.cell? (a.add j) = some u) (h1 : ∀ u ∈ news, u.oneCell' = true)
    (h63 : n + m ≤ maxLen) (hbytes : (n + m) * bytes ≤ 140737488355328) (hbase : base ≤ w.heap.size) :
    ∃ v' w', (Builtin.append_ #[t, t] ty #[v, .slice (some a) m c]).run Tryz.prog w = .ok v' w' ∧ w'.ownsRow base e size v' (n + m) (xs ++ news) ∧ w.grownBy w' v.ownBlock ∧
      ∀ g, v.ownBlock = some g → ∀ j u, xs[j]? = some u → w'.cell? ⟨g, j, none⟩ = some u := by
  obtain ⟨v', w', hr, h2, h3, _⟩ := run_append_own (P := Tryz.prog) w base t ty e i z size bytes ht hi hz hsize hby hzs hsz v n xs hown a m c news hl hnews h1 h63 hbytes hbase
  refine ⟨v', w', hr, h2, h3, ?_⟩
  intro g hg j u hu
  subst hsize
  subst hby
  have hj : j < xs.length := (List.getElem?_eq_some_iff.1 hu).1
  have hadd : ∀ g' : Nat, (⟨g', 0, none⟩ : Addr).add j = ⟨g', j, none⟩ := fun g' => by unfold Addr.add; split <;> simp_all
  have holds := hown.cells hg j u hu
  rw [hadd] at holds
  rcases hown.2 with ⟨rfl, _⟩ | ⟨g', cap, cur, rfl, hbg, hgg, hnc, hcm, hcs, htake⟩
  · simp [Value.ownBlock] at hg
  · simp [Value.ownBlock] at hg
    subst hg
    by_cases hroom : n + m ≤ cap
    · have hfit : n * i.size + news.length ≤ cur.size := by rw [hl, hcs, ← Nat.add_mul]; exact Nat.mul_le_mul_right _ hroom
      have hr' := run_append_room (P := Tryz.prog) w t ty e i ht hi g' n cap cur hgg a m c news hl hnews h1 hroom hfit
      rw [hr] at hr'
      have hv : v' = .slice (some ⟨g', 0, none⟩) (n + m) cap := by injection hr'
      have h5 := h2.cells (g := g') (by rw [hv]; rfl) j u (by rw [List.getElem?_append_left hj]; exact hu)
      rw [hadd] at h5
      exact h5
    · have hsmall : n + m ≤ 9223372036854775807 := by simp only [maxLen] at h63; omega
      have hold : ∀ j u, xs[j]? = some u → w.cell? ((⟨g', 0, none⟩ : Addr).add j) = some u := hown.cells (g := g') rfl
      have hr' := run_append_grow (P := Tryz.prog) w t ty e i z ht hi hz ⟨g', 0, none⟩ n cap xs hown.1 hold a m c news hl hnews (by omega) (by omega) (growslice_fits (by omega) hbytes)
      rw [hr] at hr'
      have hw := (Result.ok.inj hr').2
      have hlt : g' < w.heap.size := (Array.getElem?_eq_some_iff.1 hgg).1
      have hsame : w'.heap[g']? = w.heap[g']? := by rw [hw]; exact heap_alloc_old w.drew _ hlt
      rw [← holds]
      simp only [World.cell?, hsame]
theorem wp_append_keep (w : World) {o : Oper} {a : Act} {K : Act → World → Prop} {Q : Exit → Act → World → Prop} (s x : Operand) (t : TypeId)
    (ho : o.op = .call { callee := .builtin .append, args := #[s, x], argTypes := #[t, t] })
    (base : Nat) (e : TypeId) (i : TypeInfo) (z : Value) (size bytes : Nat) (ht : Tryz.prog.underlying t = some (.slice e)) (hi : Tryz.prog.info? e = some i) (hz : i.zero = some z)
    (hsize : i.size = size) (hby : i.bytes = bytes) (hzs : z.cells.size = size) (hsz : 0 < size)
    (v : Value) (n : Nat) (xs : List Value) (hs : a.eval s = v) (hown : w.ownsRow base e size v n xs)
    (ad : Addr) (m c : Nat) (news : List Value) (hx : a.eval x = .slice (some ad) m c) (hl : news.length = m * size) (hnews : ∀ j u, news[j]? = some u → w.cell? (ad.add j) = some u) (h1 : ∀ u ∈ news, u.oneCell' = true)
    (h63 : n + m ≤ maxLen) (hbytes : (n + m) * bytes ≤ 140737488355328) (hbase : base ≤ w.heap.size)
    (h : ∀ v' w', w'.ownsRow base e size v' (n + m) (xs ++ news) → w.grownBy w' v.ownBlock → (∀ g, v.ownBlock = some g → ∀ j u, xs[j]? = some u → w'.cell? ⟨g, j, none⟩ = some u) → K (a.put o.dst v') w') : o.wp Tryz.prog a w K Q := by
  obtain ⟨v', w', hr, h2, h3, h4⟩ := run_append_keep w base t o.type e i z size bytes ht hi hz hsize hby hzs hsz v n xs hown ad m c news hl hnews h1 h63 hbytes hbase
  unfold Oper.wp execOp
  simp only [ho, resolve, invoke, builtin, Sem.run_bind, Sem.run_pure, Result.andThen_ok, List.map_toArray, List.map_cons, List.map_nil, hs, hx, hr]
  exact h v' w' h2 h3 h4
end Go.Proofs.YtfdddpndjmookaaGreatDoor

/- Ratios, products, an element's cells. -/
namespace Go.Proofs.YtfdddpndjmookaaGreatDoor
open Go.RowKit

/-- Ratios, from a block's start on. -/
def RtB (w : World) (g n : Nat) (A B : Nat → Nat) : Prop := g < w.heap.size ∧ ∀ i, i < n → (∀ j, j < 4 → w.cell? ⟨g, i * 8 + j, none⟩ = some (.int .u64 ((limb j (A i) : Nat) : Int))) ∧ ∀ j, j < 4 → w.cell? ⟨g, i * 8 + 4 + j, none⟩ = some (.int .u64 ((limb j (B i) : Nat) : Int))
theorem RtB.belowAll {w w' : World} {g n : Nat} {A B : Nat → Nat} (h : RtB w g n A B) (hb : Below w.heap.size w w') : RtB w' g n A B :=
  ⟨Nat.lt_of_lt_of_le h.1 hb.size, fun i hi => ⟨fun j hj => (hb.cell (p := ⟨g, i * 8 + j, none⟩) h.1).trans ((h.2 i hi).1 j hj), fun j hj => (hb.cell (p := ⟨g, i * 8 + 4 + j, none⟩) h.1).trans ((h.2 i hi).2 j hj)⟩⟩
/-- The product's values: st, then by each ratio. -/
def alz (mu : Nat → Nat → Nat) (iv : Nat → Nat) (st : Nat) (A B : Nat → Nat) : Nat → Nat
  | 0 => st
  | k + 1 => mu (alz mu iv st A B k) (mu (A k) (iv (B k)))
theorem KU.trans {base b : Nat} {x y z : World} (h : KU base b x y) (k : KU base b y z) : KU base b x z :=
  ⟨k.1.trans h.1, k.2.1.trans h.2.1, k.2.2.1.trans h.2.2.1, Nat.le_trans h.2.2.2.1 k.2.2.2.1, fun q hq hne => (k.2.2.2.2 q hq hne).trans (h.2.2.2.2 q hq hne)⟩
theorem ownL_one (w : World) (base x : Nat) (hb : base ≤ w.heap.size) : OwnL (w.alloc (.cells #[.int .u64 ((limb 0 (x) : Nat) : Int), .int .u64 ((limb 1 (x) : Nat) : Int), .int .u64 ((limb 2 (x) : Nat) : Int), .int .u64 ((limb 3 (x) : Nat) : Int)] 25)) base (.slice (some ⟨w.heap.size, 0, none⟩) 1 1) [x] :=
  ⟨rfl, Or.inr ⟨w.heap.size, 1, #[.int .u64 ((limb 0 (x) : Nat) : Int), .int .u64 ((limb 1 (x) : Nat) : Int), .int .u64 ((limb 2 (x) : Nat) : Int), .int .u64 ((limb 3 (x) : Nat) : Int)], rfl, hb, new_blockE _ _, Nat.le_refl _, by decide, rfl, by first | rfl | (unfold els; rfl) | simp [els, List.range_succ]⟩⟩
/-- An element's four cells. -/
def Rd4 (w : World) (b o x : Nat) : Prop := w.cell? ⟨b, o, none⟩ = some (.int .u64 ((limb 0 x : Nat) : Int)) ∧ w.cell? ⟨b, o + 1, none⟩ = some (.int .u64 ((limb 1 x : Nat) : Int)) ∧ w.cell? ⟨b, o + 2, none⟩ = some (.int .u64 ((limb 2 x : Nat) : Int)) ∧ w.cell? ⟨b, o + 3, none⟩ = some (.int .u64 ((limb 3 x : Nat) : Int))
theorem Rd4.below {w w' : World} {b o x m : Nat} (h : Rd4 w b o x) (hb : Below m w w') (hm : b < m) : Rd4 w' b o x :=
  ⟨(hb.cell (p := ⟨b, o, none⟩) hm).trans h.1, (hb.cell (p := ⟨b, o + 1, none⟩) hm).trans h.2.1, (hb.cell (p := ⟨b, o + 2, none⟩) hm).trans h.2.2.1, (hb.cell (p := ⟨b, o + 3, none⟩) hm).trans h.2.2.2⟩
theorem Rd4.same {w w' : World} {b o x : Nat} (h : Rd4 w b o x) (hb : w'.heap[b]? = w.heap[b]?) : Rd4 w' b o x := by
  obtain ⟨h0, h1, h2, h3⟩ := h
  simp only [World.cell?] at h0 h1 h2 h3
  exact ⟨by simp only [World.cell?, hb]; exact h0, by simp only [World.cell?, hb]; exact h1, by simp only [World.cell?, hb]; exact h2, by simp only [World.cell?, hb]; exact h3⟩
/-- The product's list, so far. -/
def alL (mu : Nat → Nat → Nat) (iv : Nat → Nat) (st : Nat) (A B : Nat → Nat) (k : Nat) : List Nat := (List.range (k + 1)).map (alz mu iv st A B)
theorem alL_succ (mu : Nat → Nat → Nat) (iv : Nat → Nat) (st : Nat) (A B : Nat → Nat) (k : Nat) : alL mu iv st A B (k + 1) = alL mu iv st A B k ++ [alz mu iv st A B (k + 1)] := by unfold alL; rw [List.range_succ, List.map_append]; rfl
theorem alL_len (mu : Nat → Nat → Nat) (iv : Nat → Nat) (st : Nat) (A B : Nat → Nat) (k : Nat) : (alL mu iv st A B k).length = k + 1 := by unfold alL; simp
theorem alL_at (mu : Nat → Nat → Nat) (iv : Nat → Nat) (st : Nat) (A B : Nat → Nat) (k : Nat) : (alL mu iv st A B k).getD k 0 = alz mu iv st A B k := by unfold alL; simp [List.getD_eq_getElem?_getD]
theorem invU_ltM (s : Nat) (a : Nat) : invU (modN s) a < modN s := powM_lt (modN s) a (modN s - 2) (by have := (modN_odd s).2; omega)
end Go.Proofs.YtfdddpndjmookaaGreatDoor

/- lookup.Product where all lengths fit. -/
namespace Go.Proofs.YtfdddpndjmookaaGreatDoor
open Go.RowKit

/-- A block of ratios. -/
def RtK (w : World) (b n : Nat) (A B : Nat → Nat) : Prop :=
  ∃ c : Array Value, w.heap[b]? = some (.cells c 64) ∧ c.size = n * 8 ∧ ∀ i, i < n → (∀ j, j < 4 → c[i * 8 + j]? = some (.int .u64 ((limb j (A i) : Nat) : Int))) ∧ ∀ j, j < 4 → c[i * 8 + 4 + j]? = some (.int .u64 ((limb j (B i) : Nat) : Int))
section
variable {w w' : World} {b n : Nat} {A B : Nat → Nat}
theorem RtK.lt (h : RtK w b n A B) : b < w.heap.size := by
  obtain ⟨c, hc, _⟩ := h
  exact (Array.getElem?_eq_some_iff.1 hc).1
theorem RtK.rtB (h : RtK w b n A B) : RtB w b n A B := by
  refine ⟨h.lt, ?_⟩
  obtain ⟨c, hc, hs, hf⟩ := h
  intro i hi
  refine ⟨fun j hj => ?_, fun j hj => ?_⟩
  · simp [World.cell?, hc, (hf i hi).1 j hj]
  · simp [World.cell?, hc, (hf i hi).2 j hj]
theorem RtK.cell8 (h : RtK w b n A B) {i : Nat} (hi : i < n) : ∀ q, q < 8 → ∃ v, w.cell? ⟨b, i * 8 + q, none⟩ = some v := by
  obtain ⟨c, hc, hs, hf⟩ := h
  intro q hq
  have hlt : i * 8 + q < c.size := by rw [hs]; omega
  exact ⟨c[i * 8 + q], by simp [World.cell?, hc, hlt]⟩
theorem RtK.frozen (h : RtK w b n A B) : ∀ o, w.frozen? ⟨b, o, none⟩ = false := by
  obtain ⟨c, hc, _⟩ := h
  intro o
  simp [World.frozen?, hc]
theorem RtK.belowAll (h : RtK w b n A B) (hb : Below w.heap.size w w') : RtK w' b n A B := by
  have hl := h.lt
  obtain ⟨c, hc, hs⟩ := h
  exact ⟨c, by rw [hb.block b hl]; exact hc, hs⟩
theorem RtK.congr {A2 B2 : Nat → Nat} (h : RtK w b n A B) (hg : ∀ i, i < n → A2 i = A i ∧ B2 i = B i) : RtK w b n A2 B2 := by
  obtain ⟨c, hc, hs, hf⟩ := h
  exact ⟨c, hc, hs, fun i hi => by rw [(hg i hi).1, (hg i hi).2]; exact hf i hi⟩
theorem RtK.put {k : Nat} (h : RtK w b n A B) (hk : k < n) (x y : Nat) : ∃ w', (((((((w.setCell ⟨b, k * 8, none⟩ (.int .u64 ((limb 0 x : Nat) : Int))).setCell ⟨b, k * 8 + 1, none⟩ (.int .u64 ((limb 1 x : Nat) : Int))).setCell ⟨b, k * 8 + 2, none⟩ (.int .u64 ((limb 2 x : Nat) : Int))).setCell ⟨b, k * 8 + 3, none⟩ (.int .u64 ((limb 3 x : Nat) : Int))).setCell ⟨b, k * 8 + 4, none⟩ (.int .u64 ((limb 0 y : Nat) : Int))).setCell ⟨b, k * 8 + 5, none⟩ (.int .u64 ((limb 1 y : Nat) : Int))).setCell ⟨b, k * 8 + 6, none⟩ (.int .u64 ((limb 2 y : Nat) : Int))).setCell ⟨b, k * 8 + 7, none⟩ (.int .u64 ((limb 3 y : Nat) : Int)) = w' ∧ RtK w' b n (fun i => if i = k then x else A i) (fun i => if i = k then y else B i) ∧ Kept b w w' := by
  refine ⟨_, rfl, ?_, ((((((((Kept.refl _ _).setCell _ _).setCell _ _).setCell _ _).setCell _ _).setCell _ _).setCell _ _).setCell _ _).setCell _ _⟩
  obtain ⟨c, hc, hs, hf⟩ := h
  refine ⟨(((((((c.setIfInBounds (k * 8) (.int .u64 ((limb 0 x : Nat) : Int))).setIfInBounds (k * 8 + 1) (.int .u64 ((limb 1 x : Nat) : Int))).setIfInBounds (k * 8 + 2) (.int .u64 ((limb 2 x : Nat) : Int))).setIfInBounds (k * 8 + 3) (.int .u64 ((limb 3 x : Nat) : Int))).setIfInBounds (k * 8 + 4) (.int .u64 ((limb 0 y : Nat) : Int))).setIfInBounds (k * 8 + 5) (.int .u64 ((limb 1 y : Nat) : Int))).setIfInBounds (k * 8 + 6) (.int .u64 ((limb 2 y : Nat) : Int))).setIfInBounds (k * 8 + 7) (.int .u64 ((limb 3 y : Nat) : Int)), ?_, by simp [hs], ?_⟩
  · simp [World.setCell, Array.getElem?_modify, hc]
  · intro i hi
    dsimp only
    by_cases e : i = k
    · subst e
      rw [if_pos rfl, if_pos rfl]
      refine ⟨fun j hj => ?_, fun j hj => ?_⟩
      all_goals
        have hj4 : j = 0 ∨ j = 1 ∨ j = 2 ∨ j = 3 := by omega
        rcases hj4 with rfl | rfl | rfl | rfl
      all_goals simp [Array.getElem?_setIfInBounds, hs, Nat.add_assoc]
      all_goals omega
    · rw [if_neg e, if_neg e]
      refine ⟨fun j hj => ?_, fun j hj => ?_⟩
      · rw [← (hf i hi).1 j hj]
        rw [Array.getElem?_setIfInBounds_ne (by omega), Array.getElem?_setIfInBounds_ne (by omega), Array.getElem?_setIfInBounds_ne (by omega), Array.getElem?_setIfInBounds_ne (by omega), Array.getElem?_setIfInBounds_ne (by omega), Array.getElem?_setIfInBounds_ne (by omega), Array.getElem?_setIfInBounds_ne (by omega), Array.getElem?_setIfInBounds_ne (by omega)]
      · rw [← (hf i hi).2 j hj]
        rw [Array.getElem?_setIfInBounds_ne (by omega), Array.getElem?_setIfInBounds_ne (by omega), Array.getElem?_setIfInBounds_ne (by omega), Array.getElem?_setIfInBounds_ne (by omega), Array.getElem?_setIfInBounds_ne (by omega), Array.getElem?_setIfInBounds_ne (by omega), Array.getElem?_setIfInBounds_ne (by omega), Array.getElem?_setIfInBounds_ne (by omega)]
end
theorem made_zero8 (n t : Nat) (ht : t < n * 8) : (madeCells #[.int .u64 0, .int .u64 0, .int .u64 0, .int .u64 0, .int .u64 0, .int .u64 0, .int .u64 0, .int .u64 0] (n * 8)).toList[t]? = some (.int .u64 0) := by
  rw [Array.getElem?_toList]
  unfold madeCells
  rw [Array.getElem?_map, Array.getElem?_range, if_pos ht]
  have h8 : t % 8 = 0 ∨ t % 8 = 1 ∨ t % 8 = 2 ∨ t % 8 = 3 ∨ t % 8 = 4 ∨ t % 8 = 5 ∨ t % 8 = 6 ∨ t % 8 = 7 := by omega
  show some _ = _
  dsimp only
  rcases h8 with h | h | h | h | h | h | h | h
  all_goals (rw [show (#[Value.int .u64 0, .int .u64 0, .int .u64 0, .int .u64 0, .int .u64 0, .int .u64 0, .int .u64 0, .int .u64 0] : Array Value).size = 8 from rfl, h]; rfl)
theorem own_rtK {w : World} {base g n : Nat} (h : w.ownsRow base 64 8 (.slice (some ⟨g, 0, none⟩) n n) n (madeCells #[.int .u64 0, .int .u64 0, .int .u64 0, .int .u64 0, .int .u64 0, .int .u64 0, .int .u64 0, .int .u64 0] (n * 8)).toList) : RtK w g n (fun _ => 0) (fun _ => 0) ∧ base ≤ g := by
  obtain ⟨hl, h⟩ := h
  rcases h with ⟨h0, h1⟩ | ⟨g', c, cur, h1, hb, hg, hc, _, hs, ht⟩
  · cases h0
  · cases h1
    refine ⟨⟨cur, hg, hs, ?_⟩, hb⟩
    intro i hi
    refine ⟨fun j hj => ?_, fun j hj => ?_⟩
    · have hz := made_zero8 n (i * 8 + j) (by omega)
      rw [← ht, List.getElem?_take_of_lt (by omega), Array.getElem?_toList] at hz
      rw [hz, limb_zero]; rfl
    · have hz := made_zero8 n (i * 8 + 4 + j) (by omega)
      rw [← ht, List.getElem?_take_of_lt (by omega), Array.getElem?_toList] at hz
      rw [hz, limb_zero]; rfl
theorem ratInfo : ∃ i : TypeInfo, Tryz.prog.info? 64 = some i ∧ i.zero = some (.agg #[.int .u64 0, .int .u64 0, .int .u64 0, .int .u64 0, .int .u64 0, .int .u64 0, .int .u64 0, .int .u64 0]) ∧ i.size = 8 ∧ i.bytes = 64 := by
  have h : (Tryz.prog.info? 64).map (fun i => (i.zero, i.size, i.bytes)) = some (some (.agg #[.int .u64 0, .int .u64 0, .int .u64 0, .int .u64 0, .int .u64 0, .int .u64 0, .int .u64 0, .int .u64 0]), 8, 64) := by kernel_rfl
  obtain ⟨i, hi, he⟩ := Option.map_eq_some_iff.mp h
  simp only [Prod.mk.injEq] at he
  exact ⟨i, hi, he.1, he.2.1, he.2.2⟩
set_option maxHeartbeats 4000000 in
set_option maxRecDepth 20000 in
theorem prod_ok (si k : Int) (U : Nat) (a0 o0 c0 a1 o1 c1 a2 o2 c2 a3 o3 c3 : Nat) (F0 F1 F2 F3 A B : Nat → Nat) (be ga b : Nat) (Q : Ending → World → Prop) (hU : U ≤ 900) (w : World) (hg : Glob w)
    (l0 : a0 < w.heap.size) (h0 : ∀ i, i < U → ∀ j, j < 4 → w.cell? ⟨a0, o0 + i * 4 + j, none⟩ = some (.int .u64 ((limb j (F0 i) : Nat) : Int))) (l1 : a1 < w.heap.size) (h1 : ∀ i, i < U → ∀ j, j < 4 → w.cell? ⟨a1, o1 + i * 4 + j, none⟩ = some (.int .u64 ((limb j (F1 i) : Nat) : Int))) (l2 : a2 < w.heap.size) (h2 : ∀ i, i < U → ∀ j, j < 4 → w.cell? ⟨a2, o2 + i * 4 + j, none⟩ = some (.int .u64 ((limb j (F2 i) : Nat) : Int))) (l3 : a3 < w.heap.size) (h3 : ∀ i, i < U → ∀ j, j < 4 → w.cell? ⟨a3, o3 + i * 4 + j, none⟩ = some (.int .u64 ((limb j (F3 i) : Nat) : Int)))
    (hc : ∀ w, Glob w → Calls Tryz.prog 20 #[.int .i64 si, .int .i64 k] w fun e w' => e = .returned (.int .i64 0) ∧ Below w.heap.size w w')
    (hu : ∀ w, Calls Tryz.prog 21 #[.int .i64 k] w fun e w' => e = .returned (.int .i64 (U : Int)) ∧ w' = w)
    (hp : ∀ ag, ArgV ag si be ga → ∀ i, i < U → ∀ w, Glob w → Calls Tryz.prog 22 #[.agg ag, .agg #[.int .u64 ((limb 0 (F0 i) : Nat) : Int), .int .u64 ((limb 1 (F0 i) : Nat) : Int), .int .u64 ((limb 2 (F0 i) : Nat) : Int), .int .u64 ((limb 3 (F0 i) : Nat) : Int)], .agg #[.int .u64 ((limb 0 (F1 i) : Nat) : Int), .int .u64 ((limb 1 (F1 i) : Nat) : Int), .int .u64 ((limb 2 (F1 i) : Nat) : Int), .int .u64 ((limb 3 (F1 i) : Nat) : Int)]] w fun e w' => e = .returned (.agg #[.int .u64 ((limb 0 (A i) : Nat) : Int), .int .u64 ((limb 1 (A i) : Nat) : Int), .int .u64 ((limb 2 (A i) : Nat) : Int), .int .u64 ((limb 3 (A i) : Nat) : Int)]) ∧ Below w.heap.size w w')
    (hq : ∀ ag, ArgV ag si be ga → ∀ i, i < U → ∀ w, Glob w → Calls Tryz.prog 22 #[.agg ag, .agg #[.int .u64 ((limb 0 (F2 i) : Nat) : Int), .int .u64 ((limb 1 (F2 i) : Nat) : Int), .int .u64 ((limb 2 (F2 i) : Nat) : Int), .int .u64 ((limb 3 (F2 i) : Nat) : Int)], .agg #[.int .u64 ((limb 0 (F3 i) : Nat) : Int), .int .u64 ((limb 1 (F3 i) : Nat) : Int), .int .u64 ((limb 2 (F3 i) : Nat) : Int), .int .u64 ((limb 3 (F3 i) : Nat) : Int)]] w fun e w' => e = .returned (.agg #[.int .u64 ((limb 0 (B i) : Nat) : Int), .int .u64 ((limb 1 (B i) : Nat) : Int), .int .u64 ((limb 2 (B i) : Nat) : Int), .int .u64 ((limb 3 (B i) : Nat) : Int)]) ∧ Below w.heap.size w w')
    (ha : ∀ g w', Glob w' → Below w.heap.size w w' → RtB w' g U A B → Calls Tryz.prog 23 #[.int .i64 si, .agg #[.int .u64 1, .int .u64 0, .int .u64 0, .int .u64 0], .slice (some ⟨g, 0, none⟩) U U, .pointer (some ⟨b, 0, none⟩)] w' fun e w'' => (∃ x y, e = .returned (.tuple #[x, y])) ∧ Q e w'') :
    Calls Tryz.prog 8 #[.int .i64 si, .int .i64 k, .slice (some ⟨a0, o0, none⟩) U c0, .slice (some ⟨a1, o1, none⟩) U c1, .slice (some ⟨a2, o2, none⟩) U c2, .slice (some ⟨a3, o3, none⟩) U c3, .agg #[.int .u64 ((limb 0 (be) : Nat) : Int), .int .u64 ((limb 1 (be) : Nat) : Int), .int .u64 ((limb 2 (be) : Nat) : Int), .int .u64 ((limb 3 (be) : Nat) : Int)], .agg #[.int .u64 ((limb 0 (ga) : Nat) : Int), .int .u64 ((limb 1 (ga) : Nat) : Int), .int .u64 ((limb 2 (ga) : Nat) : Int), .int .u64 ((limb 3 (ga) : Nat) : Int)], .pointer (some ⟨b, 0, none⟩)] w Q := by
  obtain ⟨r0, hr, hy0, hy1, hy2⟩ := ratInfo
  have HI := (show Hid _ from hr); have HZ := (show Hid _ from And.intro hy0 (And.intro hy1 hy2)); clear hr hy0 hy1 hy2
  have HC : Hid (∀ w, Glob w → _) := hc
  have HU : Hid (∀ w, Calls Tryz.prog 21 #[.int .i64 k] w fun e w' => e = .returned (.int .i64 (U : Int)) ∧ w' = w) := hu
  have HG : Hid (Glob w) := hg
  have HP : Hid (∀ ag, ArgV ag si be ga → _) := hp
  have HQ : Hid (∀ ag, ArgV ag si be ga → _) := hq
  have HA : Hid (∀ g w', Glob w' → _) := ha
  have H0 : Hid (a0 < w.heap.size ∧ ∀ i, i < U → ∀ j, j < 4 → w.cell? ⟨a0, o0 + i * 4 + j, none⟩ = some (.int .u64 ((limb j (F0 i) : Nat) : Int))) := ⟨l0, h0⟩
  have H1 : Hid (a1 < w.heap.size ∧ ∀ i, i < U → ∀ j, j < 4 → w.cell? ⟨a1, o1 + i * 4 + j, none⟩ = some (.int .u64 ((limb j (F1 i) : Nat) : Int))) := ⟨l1, h1⟩
  have H2 : Hid (a2 < w.heap.size ∧ ∀ i, i < U → ∀ j, j < 4 → w.cell? ⟨a2, o2 + i * 4 + j, none⟩ = some (.int .u64 ((limb j (F2 i) : Nat) : Int))) := ⟨l2, h2⟩
  have H3 : Hid (a3 < w.heap.size ∧ ∀ i, i < U → ∀ j, j < 4 → w.cell? ⟨a3, o3 + i * 4 + j, none⟩ = some (.int .u64 ((limb j (F3 i) : Nat) : Int))) := ⟨l3, h3⟩
  clear hc hg hu hp hq ha l0 h0 l1 h1 l2 h2 l3 h3
  go_enter Tryz.func8, Tryz.ntmps8
  go_wp2_with fail
  have hs1 : (w.alloc (.cells #[.int .u64 ((limb 0 (be) : Nat) : Int), .int .u64 ((limb 1 (be) : Nat) : Int), .int .u64 ((limb 2 (be) : Nat) : Int), .int .u64 ((limb 3 (be) : Nat) : Int)] 25)).heap.size = w.heap.size + 1 := Array.size_push ..
  obtain ⟨N15, e0⟩ : ∃ z, z = w.heap.size := ⟨_, rfl⟩
  obtain ⟨N16, e1⟩ : ∃ z, z = N15 + 1 := ⟨_, rfl⟩
  obtain ⟨w1, hw1⟩ : ∃ z : World, z = (w.alloc (.cells #[.int .u64 ((limb 0 (be) : Nat) : Int), .int .u64 ((limb 1 (be) : Nat) : Int), .int .u64 ((limb 2 (be) : Nat) : Int), .int .u64 ((limb 3 (be) : Nat) : Int)] 25)).alloc (.cells #[.int .u64 ((limb 0 (ga) : Nat) : Int), .int .u64 ((limb 1 (ga) : Nat) : Int), .int .u64 ((limb 2 (ga) : Nat) : Int), .int .u64 ((limb 3 (ga) : Nat) : Int)] 25) := ⟨_, rfl⟩
  have b15 : Blk w1 25 N15 (fun i => limb i be) := by rw [hw1]; exact (Blk.newAt _ _ _ (fun i => limb i be) e0).alloc _
  have b16 : Blk w1 25 N16 (fun i => limb i ga) := by rw [hw1]; exact Blk.newAt _ _ _ (fun i => limb i ga) (by rw [e1, e0, hs1])
  have hb1 : Below w.heap.size w w1 := by rw [hw1]; exact bAlloc (bAlloc (Below.refl _ _) _) _
  rw [← hw1]
  try rw [← e0]
  try rw [← e1]
  have l15 : w.heap.size ≤ N15 := by omega
  have l16 : w.heap.size ≤ N16 := by omega
  have n15_16 : N15 ≠ N16 := by omega
  clear hw1 e0 e1 hs1
  have HG1 : Hid (Glob w1) := HG.out.below hb1
  refine (HC.out w1 HG1.out).mono ?_
  rintro e w2 ⟨rfl, hbx⟩
  have hb2 := bStep hb1 hbx
  have c15 := b15.belowAll hbx; have c16 := b16.belowAll hbx
  clear hb1 hbx HC HG1 b15 b16
  go_upto_region 4 with fail
  have HQL : Hid (∀ j, j < 4 → ∃ v c, (#[.slice (some ⟨a0, o0, none⟩) U c0, .slice (some ⟨a1, o1, none⟩) U c1, .slice (some ⟨a2, o2, none⟩) U c2, .slice (some ⟨a3, o3, none⟩) U c3] : Array Value)[j]? = some (.slice v U c)) := fun j hj => by
    have h4 : j = 0 ∨ j = 1 ∨ j = 2 ∨ j = 3 := by omega
    rcases h4 with rfl | rfl | rfl | rfl <;> exact ⟨_, _, rfl⟩
  obtain ⟨w3, hw3⟩ : ∃ z : World, z = w2.alloc (.cells #[.slice (some ⟨a0, o0, none⟩) U c0, .slice (some ⟨a1, o1, none⟩) U c1, .slice (some ⟨a2, o2, none⟩) U c2, .slice (some ⟨a3, o3, none⟩) U c3] 22) := ⟨_, rfl⟩
  obtain ⟨NL, eNL⟩ : ∃ z, z = w2.heap.size := ⟨_, rfl⟩
  have bl : Lay w3 22 NL #[.slice (some ⟨a0, o0, none⟩) U c0, .slice (some ⟨a1, o1, none⟩) U c1, .slice (some ⟨a2, o2, none⟩) U c2, .slice (some ⟨a3, o3, none⟩) U c3] := by rw [hw3]; exact Lay.newAt _ _ _ eNL
  have hbn : Below w2.heap.size w2 w3 := by rw [hw3]; exact bAlloc (Below.refl _ _) _
  have hb3 : Below w.heap.size w w3 := bStep hb2 hbn
  have d15 := c15.belowAll hbn; have d16 := c16.belowAll hbn
  obtain ⟨ls, els'⟩ : ∃ z : Array Value, z = #[.slice (some ⟨a0, o0, none⟩) U c0, .slice (some ⟨a1, o1, none⟩) U c1, .slice (some ⟨a2, o2, none⟩) U c2, .slice (some ⟨a3, o3, none⟩) U c3] := ⟨_, rfl⟩
  rw [← els'] at bl HQL
  go_wp2
  rw [← hw3]
  try rw [← eNL]
  clear hw3 eNL els' hb2 c15 c16 hbn
  have HB : Hid (Lay w3 22 NL ls ∧ Blk w3 25 N15 (fun i => limb i be) ∧ Blk w3 25 N16 (fun i => limb i ga) ∧ Below w.heap.size w w3) := ⟨bl, d15, d16, hb3⟩
  clear bl d15 d16 hb3
  go_loopw [38] (fun jv wr => ∃ j : Nat, jv = .int .i64 (j : Int) ∧ j ≤ 4 ∧ Hid (wr = w3)) (fun jv _ => 4 - (intOf jv).toNat)
  case atStart => exact ⟨0, rfl, Nat.zero_le _, by first | exact rfl | exact True.intro⟩
  case round =>
    obtain ⟨j, rfl, hj, hE⟩ := hrel
    have hE' := hE.out
    subst hE'
    clear hE
    by_cases hlt : j < 4
    · have hji : (j : Int) < 4 := by omega
      obtain ⟨ov, cv, hl⟩ := HQL.out j hlt
      have q := HB.out.1.at hl
      clear hl
      go_wp2_with fail
      refine (HU.out wr).mono ?_
      rintro e w5 ⟨rfl, rfl⟩
      go_wp2
      go_roundw
      case measure => simp [intOf]; omega
      case rel => exact ⟨j + 1, by go_num, by omega, by first | exact rfl | exact True.intro⟩
    · have hji : ¬ (j : Int) < 4 := by omega
      obtain ⟨-, d15, d16, hb3⟩ := HB.out
      have q15 := d15.cell; have q16 := d16.cell
      clear HB HQL
      go_upto_region 11 with fail
      obtain ⟨ag, eag⟩ : ∃ z : Array Value, z = #[.int .i64 si, .int .u64 ((limb 0 be : Nat) : Int), .int .u64 ((limb 1 be : Nat) : Int), .int .u64 ((limb 2 be : Nat) : Int), .int .u64 ((limb 3 be : Nat) : Int), .int .u64 ((limb 0 ga : Nat) : Int), .int .u64 ((limb 1 ga : Nat) : Int), .int .u64 ((limb 2 ga : Nat) : Int), .int .u64 ((limb 3 ga : Nat) : Int)] := ⟨_, rfl⟩
      have HAV : Hid (ArgV ag si be ga) := by rw [eag]; exact ⟨rfl, rfl, ⟨rfl, rfl, rfl, rfl⟩, ⟨rfl, rfl, rfl, rfl⟩⟩
      rw [← eag]
      clear eag q15 q16 d15 d16
      have HPA : Hid (∀ i, i < U → ∀ w, Glob w → Calls Tryz.prog 22 #[.agg ag, .agg #[.int .u64 ((limb 0 (F0 i) : Nat) : Int), .int .u64 ((limb 1 (F0 i) : Nat) : Int), .int .u64 ((limb 2 (F0 i) : Nat) : Int), .int .u64 ((limb 3 (F0 i) : Nat) : Int)], .agg #[.int .u64 ((limb 0 (F1 i) : Nat) : Int), .int .u64 ((limb 1 (F1 i) : Nat) : Int), .int .u64 ((limb 2 (F1 i) : Nat) : Int), .int .u64 ((limb 3 (F1 i) : Nat) : Int)]] w fun e w' => e = .returned (.agg #[.int .u64 ((limb 0 (A i) : Nat) : Int), .int .u64 ((limb 1 (A i) : Nat) : Int), .int .u64 ((limb 2 (A i) : Nat) : Int), .int .u64 ((limb 3 (A i) : Nat) : Int)]) ∧ Below w.heap.size w w') := HP.out ag HAV.out
      have HQA : Hid (∀ i, i < U → ∀ w, Glob w → Calls Tryz.prog 22 #[.agg ag, .agg #[.int .u64 ((limb 0 (F2 i) : Nat) : Int), .int .u64 ((limb 1 (F2 i) : Nat) : Int), .int .u64 ((limb 2 (F2 i) : Nat) : Int), .int .u64 ((limb 3 (F2 i) : Nat) : Int)], .agg #[.int .u64 ((limb 0 (F3 i) : Nat) : Int), .int .u64 ((limb 1 (F3 i) : Nat) : Int), .int .u64 ((limb 2 (F3 i) : Nat) : Int), .int .u64 ((limb 3 (F3 i) : Nat) : Int)]] w fun e w' => e = .returned (.agg #[.int .u64 ((limb 0 (B i) : Nat) : Int), .int .u64 ((limb 1 (B i) : Nat) : Int), .int .u64 ((limb 2 (B i) : Nat) : Int), .int .u64 ((limb 3 (B i) : Nat) : Int)]) ∧ Below w.heap.size w w') := HQ.out ag HAV.out
      have HS9 : Hid ((Tryz.prog.info? 60).map (·.size) = some ag.size) := by rw [HAV.out.1]; exact sizA
      clear HP HQ HAV
      obtain ⟨w4, hw4⟩ : ∃ z : World, z = wr.alloc (.cells ag 60) := ⟨_, rfl⟩
      obtain ⟨N23, hn⟩ : ∃ z, z = wr.heap.size := ⟨_, rfl⟩
      have e23 : Lay w4 60 N23 ag := by rw [hw4]; exact Lay.newAt _ _ _ hn
      have hbn : Below wr.heap.size wr w4 := by rw [hw4]; exact bAlloc (Below.refl _ _) _
      have hb4 := bStep hb3 hbn
      rw [← hw4]
      try rw [← hn]
      clear hw4 hn hbn hb3
      go_wp2_with (first
        | (at_make; refine wpList_make_full _ rfl _ _ 61 rfl w4.heap.size 64 r0 (.agg #[.int .u64 0, .int .u64 0, .int .u64 0, .int .u64 0, .int .u64 0, .int .u64 0, .int .u64 0, .int .u64 0]) 8 Tryz.underlying61 HI.out HZ.out.1 HZ.out.2.1 .i64 .i64 U U U rfl rfl rfl rfl ?c1 ?c2 (Nat.le_refl _) ?_)
        | go_in)
      case c1 => rw [HZ.out.2.2]; omega
      case c2 => unfold maxLen; omega
      intro w5 hown hgrow
      obtain ⟨G, eG⟩ : ∃ G, G = w4.heap.size := ⟨_, rfl⟩
      rw [← eG] at hown ⊢
      have bo := (own_rtK hown).1
      have hbe : Below w4.heap.size w4 w5 := (Below.refl _ w4).grown hgrow (Nat.le_refl _) (fun j hj => by cases hj)
      have hb5 := bStep hb4 hbe
      have lG : w.heap.size ≤ G := by rw [eG]; exact hb4.size
      have f23 := e23.belowAll hbe
      have n23G : N23 ≠ G := by have := e23.lt; omega
      clear hown hgrow hbe e23 hb4 eG HI HZ
      go_wp2
      go_loopw [57] (fun iv wr => ∃ j : Nat, iv = .int .i64 (j : Int) ∧ j ≤ U ∧ RtK wr G U (fun i => if i < j then A i else 0) (fun i => if i < j then B i else 0) ∧ Below w.heap.size w wr ∧ Lay wr 60 N23 ag) (fun iv _ => U - (intOf iv).toNat)
      case atStart => exact ⟨0, rfl, Nat.zero_le _, bo.congr (fun i hi => by rw [if_neg (Nat.not_lt_zero i), if_neg (Nat.not_lt_zero i)]; exact ⟨rfl, rfl⟩), hb5, f23⟩
      case round =>
        obtain ⟨i, rfl, hi, bg, hbr, p23⟩ := hrel
        clear bo hb5 f23 hji hj
        by_cases hlt2 : i < U
        · have hii : (i : Int) < (U : Int) := by omega
          obtain ⟨la0, hcl0⟩ := H0.out
          have lr0 : a0 < wr.heap.size := Nat.lt_of_lt_of_le la0 hbr.size
          obtain ⟨p0, ep0⟩ : ∃ z, z = F0 i := ⟨_, rfl⟩
          have HX0 : Hid (∀ w', Below wr.heap.size wr w' → w'.cell? ⟨a0, o0 + i * 4, none⟩ = some (.int .u64 ((limb 0 p0 : Nat) : Int)) ∧ w'.cell? ⟨a0, o0 + i * 4 + 1, none⟩ = some (.int .u64 ((limb 1 p0 : Nat) : Int)) ∧ w'.cell? ⟨a0, o0 + i * 4 + 2, none⟩ = some (.int .u64 ((limb 2 p0 : Nat) : Int)) ∧ w'.cell? ⟨a0, o0 + i * 4 + 3, none⟩ = some (.int .u64 ((limb 3 p0 : Nat) : Int))) := by
            intro w' hb
            rw [ep0]
            exact ⟨(hb.cell (p := ⟨a0, o0 + i * 4, none⟩) lr0).trans ((hbr.cell (p := ⟨a0, o0 + i * 4 + 0, none⟩) la0).trans (hcl0 i hlt2 0 (by decide))), (hb.cell (p := ⟨a0, o0 + i * 4 + 1, none⟩) lr0).trans ((hbr.cell (p := ⟨a0, o0 + i * 4 + 1, none⟩) la0).trans (hcl0 i hlt2 1 (by decide))), (hb.cell (p := ⟨a0, o0 + i * 4 + 2, none⟩) lr0).trans ((hbr.cell (p := ⟨a0, o0 + i * 4 + 2, none⟩) la0).trans (hcl0 i hlt2 2 (by decide))), (hb.cell (p := ⟨a0, o0 + i * 4 + 3, none⟩) lr0).trans ((hbr.cell (p := ⟨a0, o0 + i * 4 + 3, none⟩) la0).trans (hcl0 i hlt2 3 (by decide)))⟩
          clear la0 hcl0 lr0
          obtain ⟨la1, hcl1⟩ := H1.out
          have lr1 : a1 < wr.heap.size := Nat.lt_of_lt_of_le la1 hbr.size
          obtain ⟨p1, ep1⟩ : ∃ z, z = F1 i := ⟨_, rfl⟩
          have HX1 : Hid (∀ w', Below wr.heap.size wr w' → w'.cell? ⟨a1, o1 + i * 4, none⟩ = some (.int .u64 ((limb 0 p1 : Nat) : Int)) ∧ w'.cell? ⟨a1, o1 + i * 4 + 1, none⟩ = some (.int .u64 ((limb 1 p1 : Nat) : Int)) ∧ w'.cell? ⟨a1, o1 + i * 4 + 2, none⟩ = some (.int .u64 ((limb 2 p1 : Nat) : Int)) ∧ w'.cell? ⟨a1, o1 + i * 4 + 3, none⟩ = some (.int .u64 ((limb 3 p1 : Nat) : Int))) := by
            intro w' hb
            rw [ep1]
            exact ⟨(hb.cell (p := ⟨a1, o1 + i * 4, none⟩) lr1).trans ((hbr.cell (p := ⟨a1, o1 + i * 4 + 0, none⟩) la1).trans (hcl1 i hlt2 0 (by decide))), (hb.cell (p := ⟨a1, o1 + i * 4 + 1, none⟩) lr1).trans ((hbr.cell (p := ⟨a1, o1 + i * 4 + 1, none⟩) la1).trans (hcl1 i hlt2 1 (by decide))), (hb.cell (p := ⟨a1, o1 + i * 4 + 2, none⟩) lr1).trans ((hbr.cell (p := ⟨a1, o1 + i * 4 + 2, none⟩) la1).trans (hcl1 i hlt2 2 (by decide))), (hb.cell (p := ⟨a1, o1 + i * 4 + 3, none⟩) lr1).trans ((hbr.cell (p := ⟨a1, o1 + i * 4 + 3, none⟩) la1).trans (hcl1 i hlt2 3 (by decide)))⟩
          clear la1 hcl1 lr1
          obtain ⟨la2, hcl2⟩ := H2.out
          have lr2 : a2 < wr.heap.size := Nat.lt_of_lt_of_le la2 hbr.size
          obtain ⟨p2, ep2⟩ : ∃ z, z = F2 i := ⟨_, rfl⟩
          have HX2 : Hid (∀ w', Below wr.heap.size wr w' → w'.cell? ⟨a2, o2 + i * 4, none⟩ = some (.int .u64 ((limb 0 p2 : Nat) : Int)) ∧ w'.cell? ⟨a2, o2 + i * 4 + 1, none⟩ = some (.int .u64 ((limb 1 p2 : Nat) : Int)) ∧ w'.cell? ⟨a2, o2 + i * 4 + 2, none⟩ = some (.int .u64 ((limb 2 p2 : Nat) : Int)) ∧ w'.cell? ⟨a2, o2 + i * 4 + 3, none⟩ = some (.int .u64 ((limb 3 p2 : Nat) : Int))) := by
            intro w' hb
            rw [ep2]
            exact ⟨(hb.cell (p := ⟨a2, o2 + i * 4, none⟩) lr2).trans ((hbr.cell (p := ⟨a2, o2 + i * 4 + 0, none⟩) la2).trans (hcl2 i hlt2 0 (by decide))), (hb.cell (p := ⟨a2, o2 + i * 4 + 1, none⟩) lr2).trans ((hbr.cell (p := ⟨a2, o2 + i * 4 + 1, none⟩) la2).trans (hcl2 i hlt2 1 (by decide))), (hb.cell (p := ⟨a2, o2 + i * 4 + 2, none⟩) lr2).trans ((hbr.cell (p := ⟨a2, o2 + i * 4 + 2, none⟩) la2).trans (hcl2 i hlt2 2 (by decide))), (hb.cell (p := ⟨a2, o2 + i * 4 + 3, none⟩) lr2).trans ((hbr.cell (p := ⟨a2, o2 + i * 4 + 3, none⟩) la2).trans (hcl2 i hlt2 3 (by decide)))⟩
          clear la2 hcl2 lr2
          obtain ⟨la3, hcl3⟩ := H3.out
          have lr3 : a3 < wr.heap.size := Nat.lt_of_lt_of_le la3 hbr.size
          obtain ⟨p3, ep3⟩ : ∃ z, z = F3 i := ⟨_, rfl⟩
          have HX3 : Hid (∀ w', Below wr.heap.size wr w' → w'.cell? ⟨a3, o3 + i * 4, none⟩ = some (.int .u64 ((limb 0 p3 : Nat) : Int)) ∧ w'.cell? ⟨a3, o3 + i * 4 + 1, none⟩ = some (.int .u64 ((limb 1 p3 : Nat) : Int)) ∧ w'.cell? ⟨a3, o3 + i * 4 + 2, none⟩ = some (.int .u64 ((limb 2 p3 : Nat) : Int)) ∧ w'.cell? ⟨a3, o3 + i * 4 + 3, none⟩ = some (.int .u64 ((limb 3 p3 : Nat) : Int))) := by
            intro w' hb
            rw [ep3]
            exact ⟨(hb.cell (p := ⟨a3, o3 + i * 4, none⟩) lr3).trans ((hbr.cell (p := ⟨a3, o3 + i * 4 + 0, none⟩) la3).trans (hcl3 i hlt2 0 (by decide))), (hb.cell (p := ⟨a3, o3 + i * 4 + 1, none⟩) lr3).trans ((hbr.cell (p := ⟨a3, o3 + i * 4 + 1, none⟩) la3).trans (hcl3 i hlt2 1 (by decide))), (hb.cell (p := ⟨a3, o3 + i * 4 + 2, none⟩) lr3).trans ((hbr.cell (p := ⟨a3, o3 + i * 4 + 2, none⟩) la3).trans (hcl3 i hlt2 2 (by decide))), (hb.cell (p := ⟨a3, o3 + i * 4 + 3, none⟩) lr3).trans ((hbr.cell (p := ⟨a3, o3 + i * 4 + 3, none⟩) la3).trans (hcl3 i hlt2 3 (by decide)))⟩
          clear la3 hcl3 lr3
          have HP1 : Hid (∀ w, Glob w → Calls Tryz.prog 22 #[.agg ag, .agg #[.int .u64 ((limb 0 (p0) : Nat) : Int), .int .u64 ((limb 1 (p0) : Nat) : Int), .int .u64 ((limb 2 (p0) : Nat) : Int), .int .u64 ((limb 3 (p0) : Nat) : Int)], .agg #[.int .u64 ((limb 0 (p1) : Nat) : Int), .int .u64 ((limb 1 (p1) : Nat) : Int), .int .u64 ((limb 2 (p1) : Nat) : Int), .int .u64 ((limb 3 (p1) : Nat) : Int)]] w fun e w' => e = .returned (.agg #[.int .u64 ((limb 0 (A i) : Nat) : Int), .int .u64 ((limb 1 (A i) : Nat) : Int), .int .u64 ((limb 2 (A i) : Nat) : Int), .int .u64 ((limb 3 (A i) : Nat) : Int)]) ∧ Below w.heap.size w w') := by rw [ep0, ep1]; exact HPA.out i hlt2
          have HP2 : Hid (∀ w, Glob w → Calls Tryz.prog 22 #[.agg ag, .agg #[.int .u64 ((limb 0 (p2) : Nat) : Int), .int .u64 ((limb 1 (p2) : Nat) : Int), .int .u64 ((limb 2 (p2) : Nat) : Int), .int .u64 ((limb 3 (p2) : Nat) : Int)], .agg #[.int .u64 ((limb 0 (p3) : Nat) : Int), .int .u64 ((limb 1 (p3) : Nat) : Int), .int .u64 ((limb 2 (p3) : Nat) : Int), .int .u64 ((limb 3 (p3) : Nat) : Int)]] w fun e w' => e = .returned (.agg #[.int .u64 ((limb 0 (B i) : Nat) : Int), .int .u64 ((limb 1 (B i) : Nat) : Int), .int .u64 ((limb 2 (B i) : Nat) : Int), .int .u64 ((limb 3 (B i) : Nat) : Int)]) ∧ Below w.heap.size w w') := by rw [ep2, ep3]; exact HQA.out i hlt2
          obtain ⟨x, ex⟩ : ∃ z, z = A i := ⟨_, rfl⟩
          obtain ⟨y, ey⟩ : ∃ z, z = B i := ⟨_, rfl⟩
          rw [← ex] at HP1
          rw [← ey] at HP2
          have HXY : Hid (x = A i ∧ y = B i) := ⟨ex, ey⟩
          clear ep0 ep1 ep2 ep3 ex ey
          have HGr : Hid (Glob wr) := HG.out.below hbr
          go_upto_region 15 with fail
          refine wp_region_Z (fun w' => Below wr.heap.size wr w') 24 (by kernel_rfl) ?_
          obtain ⟨wD, hD⟩ : ∃ x : World, x = wr.drew := ⟨_, rfl⟩
          rw [← hD]
          have hp0_0 : Below wr.heap.size wr wD := by rw [hD]; exact (Below.refl _ _).drew
          have hlow0 : Below wr.heap.size wr wD := by rw [hD]; exact (Below.refl _ _).drew
          clear hD
          refine wpZ_take (i := 0) (v := .slice (some ⟨G, 0, none⟩) U U) 60 rfl rfl (by kernel_rfl) (by kernel_rfl) (by kernel_rfl) (Or.inl (by kernel_rfl)) (fun _ _ _ h => h) (Or.inl ⟨by rfl, fun w hSw => by go_simp⟩) hp0_0 ?_
          simp only [Act.put, List.setIfInBounds_toArray]
          dsimp only [List.set_cons_zero, List.set_cons_succ]
          refine wpZ_take (i := 1) (v := .int .i64 (i : Int)) 61 rfl rfl (by kernel_rfl) (by kernel_rfl) (by kernel_rfl) (Or.inl (by kernel_rfl)) (fun _ _ _ h => h) (Or.inl ⟨by rfl, fun w hSw => by go_simp⟩) hp0_0 ?_
          simp only [Act.put, List.setIfInBounds_toArray]
          dsimp only [List.set_cons_zero, List.set_cons_succ]
          refine wpZ_take (i := 2) (v := .agg ag) 62 rfl rfl (by kernel_rfl) (by kernel_rfl) (by kernel_rfl) (Or.inl (by kernel_rfl)) (fun _ _ _ h => h) (yLd undA rfl _ rfl N23 rfl ag HS9.out (fun w hSw => p23.belowAll hSw)) hp0_0 ?_
          simp only [Act.put, List.setIfInBounds_toArray]
          dsimp only [List.set_cons_zero, List.set_cons_succ]
          refine wpZ_take (i := 3) (v := .slice (some ⟨a0, o0, none⟩) U c0) 63 rfl rfl (by kernel_rfl) (by kernel_rfl) (by kernel_rfl) (Or.inl (by kernel_rfl)) (fun _ _ _ h => h) (Or.inl ⟨by rfl, fun w hSw => by go_simp⟩) hp0_0 ?_
          simp only [Act.put, List.setIfInBounds_toArray]
          dsimp only [List.set_cons_zero, List.set_cons_succ]
          refine wpZ_take (i := 4) (v := .int .i64 (i : Int)) 64 rfl rfl (by kernel_rfl) (by kernel_rfl) (by kernel_rfl) (Or.inl (by kernel_rfl)) (fun _ _ _ h => h) (Or.inl ⟨by rfl, fun w hSw => by go_simp⟩) hp0_0 ?_
          simp only [Act.put, List.setIfInBounds_toArray]
          dsimp only [List.set_cons_zero, List.set_cons_succ]
          refine wpZ_take (i := 5) (v := .pointer (some ⟨a0, o0 + i * 4, none⟩)) 65 rfl rfl (by kernel_rfl) (by kernel_rfl) (by kernel_rfl) (Or.inl (by kernel_rfl)) (fun _ _ _ h => h) (Or.inl ⟨by rfl, fun w hSw => by go_simp⟩) hp0_0 ?_
          simp only [Act.put, List.setIfInBounds_toArray]
          dsimp only [List.set_cons_zero, List.set_cons_succ]
          refine wpZ_take (i := 6) (v := .agg #[.int .u64 ((limb 0 (p0) : Nat) : Int), .int .u64 ((limb 1 (p0) : Nat) : Int), .int .u64 ((limb 2 (p0) : Nat) : Int), .int .u64 ((limb 3 (p0) : Nat) : Int)]) 66 rfl rfl (by kernel_rfl) (by kernel_rfl) (by kernel_rfl) (Or.inl (by kernel_rfl)) (fun _ _ _ h => h) (Or.inl ⟨by rfl, fun w hSw => by (obtain ⟨q0, q1, q2, q3⟩ := HX0.out w hSw; clear hSw; go_simp)⟩) hp0_0 ?_
          simp only [Act.put, List.setIfInBounds_toArray]
          dsimp only [List.set_cons_zero, List.set_cons_succ]
          refine wpZ_take (i := 7) (v := .slice (some ⟨a1, o1, none⟩) U c1) 67 rfl rfl (by kernel_rfl) (by kernel_rfl) (by kernel_rfl) (Or.inl (by kernel_rfl)) (fun _ _ _ h => h) (Or.inl ⟨by rfl, fun w hSw => by go_simp⟩) hp0_0 ?_
          simp only [Act.put, List.setIfInBounds_toArray]
          dsimp only [List.set_cons_zero, List.set_cons_succ]
          refine wpZ_take (i := 8) (v := .int .i64 (i : Int)) 68 rfl rfl (by kernel_rfl) (by kernel_rfl) (by kernel_rfl) (Or.inl (by kernel_rfl)) (fun _ _ _ h => h) (Or.inl ⟨by rfl, fun w hSw => by go_simp⟩) hp0_0 ?_
          simp only [Act.put, List.setIfInBounds_toArray]
          dsimp only [List.set_cons_zero, List.set_cons_succ]
          refine wpZ_take (i := 9) (v := .pointer (some ⟨a1, o1 + i * 4, none⟩)) 69 rfl rfl (by kernel_rfl) (by kernel_rfl) (by kernel_rfl) (Or.inl (by kernel_rfl)) (fun _ _ _ h => h) (Or.inl ⟨by rfl, fun w hSw => by go_simp⟩) hp0_0 ?_
          simp only [Act.put, List.setIfInBounds_toArray]
          dsimp only [List.set_cons_zero, List.set_cons_succ]
          refine wpZ_take (i := 10) (v := .agg #[.int .u64 ((limb 0 (p1) : Nat) : Int), .int .u64 ((limb 1 (p1) : Nat) : Int), .int .u64 ((limb 2 (p1) : Nat) : Int), .int .u64 ((limb 3 (p1) : Nat) : Int)]) 70 rfl rfl (by kernel_rfl) (by kernel_rfl) (by kernel_rfl) (Or.inl (by kernel_rfl)) (fun _ _ _ h => h) (Or.inl ⟨by rfl, fun w hSw => by (obtain ⟨q0, q1, q2, q3⟩ := HX1.out w hSw; clear hSw; go_simp)⟩) hp0_0 ?_
          simp only [Act.put, List.setIfInBounds_toArray]
          dsimp only [List.set_cons_zero, List.set_cons_succ]
          refine wpZ_take (i := 12) (v := .agg ag) 72 rfl rfl (by kernel_rfl) (by kernel_rfl) (by kernel_rfl) (Or.inl (by kernel_rfl)) (fun _ _ _ h => h) (yLd undA rfl _ rfl N23 rfl ag HS9.out (fun w hSw => p23.belowAll hSw)) hp0_0 ?_
          simp only [Act.put, List.setIfInBounds_toArray]
          dsimp only [List.set_cons_zero, List.set_cons_succ]
          refine wpZ_take (i := 13) (v := .slice (some ⟨a2, o2, none⟩) U c2) 73 rfl rfl (by kernel_rfl) (by kernel_rfl) (by kernel_rfl) (Or.inl (by kernel_rfl)) (fun _ _ _ h => h) (Or.inl ⟨by rfl, fun w hSw => by go_simp⟩) hp0_0 ?_
          simp only [Act.put, List.setIfInBounds_toArray]
          dsimp only [List.set_cons_zero, List.set_cons_succ]
          refine wpZ_take (i := 14) (v := .int .i64 (i : Int)) 74 rfl rfl (by kernel_rfl) (by kernel_rfl) (by kernel_rfl) (Or.inl (by kernel_rfl)) (fun _ _ _ h => h) (Or.inl ⟨by rfl, fun w hSw => by go_simp⟩) hp0_0 ?_
          simp only [Act.put, List.setIfInBounds_toArray]
          dsimp only [List.set_cons_zero, List.set_cons_succ]
          refine wpZ_take (i := 15) (v := .pointer (some ⟨a2, o2 + i * 4, none⟩)) 75 rfl rfl (by kernel_rfl) (by kernel_rfl) (by kernel_rfl) (Or.inl (by kernel_rfl)) (fun _ _ _ h => h) (Or.inl ⟨by rfl, fun w hSw => by go_simp⟩) hp0_0 ?_
          simp only [Act.put, List.setIfInBounds_toArray]
          dsimp only [List.set_cons_zero, List.set_cons_succ]
          refine wpZ_take (i := 16) (v := .agg #[.int .u64 ((limb 0 (p2) : Nat) : Int), .int .u64 ((limb 1 (p2) : Nat) : Int), .int .u64 ((limb 2 (p2) : Nat) : Int), .int .u64 ((limb 3 (p2) : Nat) : Int)]) 76 rfl rfl (by kernel_rfl) (by kernel_rfl) (by kernel_rfl) (Or.inl (by kernel_rfl)) (fun _ _ _ h => h) (Or.inl ⟨by rfl, fun w hSw => by (obtain ⟨q0, q1, q2, q3⟩ := HX2.out w hSw; clear hSw; go_simp)⟩) hp0_0 ?_
          simp only [Act.put, List.setIfInBounds_toArray]
          dsimp only [List.set_cons_zero, List.set_cons_succ]
          refine wpZ_take (i := 17) (v := .slice (some ⟨a3, o3, none⟩) U c3) 77 rfl rfl (by kernel_rfl) (by kernel_rfl) (by kernel_rfl) (Or.inl (by kernel_rfl)) (fun _ _ _ h => h) (Or.inl ⟨by rfl, fun w hSw => by go_simp⟩) hp0_0 ?_
          simp only [Act.put, List.setIfInBounds_toArray]
          dsimp only [List.set_cons_zero, List.set_cons_succ]
          refine wpZ_take (i := 18) (v := .int .i64 (i : Int)) 78 rfl rfl (by kernel_rfl) (by kernel_rfl) (by kernel_rfl) (Or.inl (by kernel_rfl)) (fun _ _ _ h => h) (Or.inl ⟨by rfl, fun w hSw => by go_simp⟩) hp0_0 ?_
          simp only [Act.put, List.setIfInBounds_toArray]
          dsimp only [List.set_cons_zero, List.set_cons_succ]
          refine wpZ_take (i := 19) (v := .pointer (some ⟨a3, o3 + i * 4, none⟩)) 79 rfl rfl (by kernel_rfl) (by kernel_rfl) (by kernel_rfl) (Or.inl (by kernel_rfl)) (fun _ _ _ h => h) (Or.inl ⟨by rfl, fun w hSw => by go_simp⟩) hp0_0 ?_
          simp only [Act.put, List.setIfInBounds_toArray]
          dsimp only [List.set_cons_zero, List.set_cons_succ]
          refine wpZ_take (i := 20) (v := .agg #[.int .u64 ((limb 0 (p3) : Nat) : Int), .int .u64 ((limb 1 (p3) : Nat) : Int), .int .u64 ((limb 2 (p3) : Nat) : Int), .int .u64 ((limb 3 (p3) : Nat) : Int)]) 80 rfl rfl (by kernel_rfl) (by kernel_rfl) (by kernel_rfl) (Or.inl (by kernel_rfl)) (fun _ _ _ h => h) (Or.inl ⟨by rfl, fun w hSw => by (obtain ⟨q0, q1, q2, q3⟩ := HX3.out w hSw; clear hSw; go_simp)⟩) hp0_0 ?_
          simp only [Act.put, List.setIfInBounds_toArray]
          dsimp only [List.set_cons_zero, List.set_cons_succ]
          refine wpZ_one (i := 11) (by kernel_rfl) rfl (fun K hK => ?_)
          go_simp
          refine (HP1.out wD (HGr.out.below hlow0)).mono ?_
          rintro e wT1 ⟨rfl, hbT1⟩
          have hlowT1 := bStep hlow0 hbT1
          go_wp2_with fail
          refine hK.out _ _ (fun _ => hlowT1) ?_
          clear hK K hbT1
          refine wpZ_one (i := 21) (by kernel_rfl) rfl (fun K hK => ?_)
          go_simp
          refine (HP2.out wT1 (HGr.out.below hlowT1)).mono ?_
          rintro e wT2 ⟨rfl, hbT2⟩
          have hlowT2 := bStep hlowT1 hbT2
          go_wp2_with fail
          refine hK.out _ _ (fun _ => hlowT2) ?_
          clear hK K hbT2
          refine wpZ_take (i := 22) (v := .agg #[.int .u64 ((limb 0 x : Nat) : Int), .int .u64 ((limb 1 x : Nat) : Int), .int .u64 ((limb 2 x : Nat) : Int), .int .u64 ((limb 3 x : Nat) : Int), .int .u64 ((limb 0 y : Nat) : Int), .int .u64 ((limb 1 y : Nat) : Int), .int .u64 ((limb 2 y : Nat) : Int), .int .u64 ((limb 3 y : Nat) : Int)]) 82 rfl rfl (by kernel_rfl) (by kernel_rfl) (by kernel_rfl) (Or.inl (by kernel_rfl)) (fun _ _ _ h => h) (Or.inl ⟨by rfl, fun w hSw => by go_simp⟩) hlowT2 ?_
          simp only [Act.put, List.setIfInBounds_toArray]
          dsimp only [List.set_cons_zero, List.set_cons_succ]
          refine wpZ_take (i := 23) (v := .pointer (some ⟨G, i * 8, none⟩)) 83 rfl rfl (by kernel_rfl) (by kernel_rfl) (by kernel_rfl) (Or.inl (by kernel_rfl)) (fun _ _ _ h => h) (Or.inl ⟨by rfl, fun w hSw => by go_simp⟩) hlowT2 ?_
          simp only [Act.put, List.setIfInBounds_toArray]
          dsimp only [List.set_cons_zero, List.set_cons_succ]
          refine wpZ_one (i := 24) (by kernel_rfl) rfl (fun K hK => ?_)
          have bS := bg.belowAll hlowT2
          have fS := bS.frozen
          obtain ⟨v0, cS0⟩ := bS.cell8 hlt2 0 (by decide)
          obtain ⟨v1, cS1⟩ := bS.cell8 hlt2 1 (by decide)
          obtain ⟨v2, cS2⟩ := bS.cell8 hlt2 2 (by decide)
          obtain ⟨v3, cS3⟩ := bS.cell8 hlt2 3 (by decide)
          obtain ⟨v4, cS4⟩ := bS.cell8 hlt2 4 (by decide)
          obtain ⟨v5, cS5⟩ := bS.cell8 hlt2 5 (by decide)
          obtain ⟨v6, cS6⟩ := bS.cell8 hlt2 6 (by decide)
          obtain ⟨v7, cS7⟩ := bS.cell8 hlt2 7 (by decide)
          rw [Nat.add_zero] at cS0
          obtain ⟨w6, hw6, s7, hk6⟩ := bS.put hlt2 x y
          go_simp
          refine hK.out _ _ (fun h => absurd rfl h) ?_
          clear hK K
          refine wpZ_done (by kernel_rfl) ?_ _
          have hbw6 := bKept (bStep hbr hlowT2) lG hk6
          have t23 := (p23.belowAll hlowT2).kept n23G hk6
          have HRK : Hid (RtK w6 G U (fun q => if q < i + 1 then A q else 0) (fun q => if q < i + 1 then B q else 0)) := s7.congr (fun q hq => by
            obtain ⟨rfl, rfl⟩ := HXY.out
            by_cases h1 : q = i
            · subst h1; rw [if_pos (Nat.lt_succ_self q), if_pos rfl, if_pos (Nat.lt_succ_self q), if_pos rfl]; exact ⟨rfl, rfl⟩
            · by_cases h2 : q < i
              · rw [if_pos (show q < i + 1 by omega), if_neg h1, if_pos h2, if_pos (show q < i + 1 by omega), if_neg h1, if_pos h2]; exact ⟨rfl, rfl⟩
              · rw [if_neg (show ¬ q < i + 1 by omega), if_neg h1, if_neg h2, if_neg (show ¬ q < i + 1 by omega), if_neg h1, if_neg h2]; exact ⟨rfl, rfl⟩)
          clear bS fS cS0 cS1 cS2 cS3 cS4 cS5 cS6 cS7 hk6 s7 hbr p23 bg hlowT2
          go_wp2
          go_roundw
          case measure => simp [intOf]; omega
          case rel => exact ⟨i + 1, by go_num, by omega, HRK.out, hbw6, t23⟩
        · have hii : ¬ (i : Int) < (U : Int) := by omega
          obtain rfl : U = i := by omega
          have HRK : Hid (RtB wr G U A B) := (bg.congr (fun q hq => by rw [if_pos hq, if_pos hq]; exact ⟨rfl, rfl⟩)).rtB
          have HGr : Hid (Glob wr) := HG.out.below hbr
          have HAA := HA.out G wr HGr.out hbr HRK.out
          clear bg hbr p23
          go_wp2_with fail
          refine HAA.mono ?_
          rintro e w9 ⟨⟨x, y, rfl⟩, hq⟩
          have HQ9 : Hid (Q (.returned (.tuple #[x, y])) w9) := hq
          clear hq HAA
          go_wp2
          exact HQ9.out
end Go.Proofs.YtfdddpndjmookaaGreatDoor

