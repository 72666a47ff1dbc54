/- permute's joints. -/
import Derived.Test.YtfbfenljfdnggaaGreatDoorVPC3
namespace Go.Proofs.YtfbfenljfdnggaaGreatDoor
open Go.RowKit
/-- v is a list of the call's own: l. -/
def OwnL (w : World) (base : Nat) (v : Value) (l : List Nat) : Prop := w.ownsRow base 25 4 v l.length (els (fun i => l.getD i 0) l.length)
theorem els_push (l : List Nat) (x : Nat) : els (fun i => l.getD i 0) l.length ++ [.int .u64 ((limb 0 x : Nat) : Int), .int .u64 ((limb 1 x : Nat) : Int), .int .u64 ((limb 2 x : Nat) : Int), .int .u64 ((limb 3 x : Nat) : Int)] = els (fun i => (l ++ [x]).getD i 0) (l ++ [x]).length := by
  rw [List.length_append, List.length_singleton, els_succ]
  congr 1
  · refine els_congr (fun i hi => ?_)
    rw [List.getD_eq_getElem?_getD, List.getD_eq_getElem?_getD, List.getElem?_append_left hi]
  · simp [List.getD_eq_getElem?_getD]
theorem OwnL.push {w : World} {base : Nat} {v : Value} {l : List Nat} {x : Nat} (h : w.ownsRow base 25 4 v (l.length + 1) (els (fun i => l.getD i 0) l.length ++ [.int .u64 ((limb 0 x : Nat) : Int), .int .u64 ((limb 1 x : Nat) : Int), .int .u64 ((limb 2 x : Nat) : Int), .int .u64 ((limb 3 x : Nat) : Int)])) : OwnL w base v (l ++ [x]) := by
  unfold OwnL
  rw [els_push] at h
  rw [List.length_append, List.length_singleton] at h ⊢
  exact h
theorem OwnL.es {w : World} {base : Nat} {v : Value} {l : List Nat} (h : OwnL w base v l) : Es w v l.length (fun i => l.getD i 0) := own_Es h
theorem OwnL.below {w w' : World} {base : Nat} {v : Value} {l : List Nat} (h : OwnL w base v l) (hb : Below w.heap.size w w') : OwnL w' base v l := ownsRow_below h hb
theorem ownL_base {w : World} {base b2 : Nat} {v : Value} {l : List Nat} (h : OwnL w b2 v l) (hb : base ≤ b2) : OwnL w base v l := by
  obtain ⟨h1, h2⟩ := h
  refine ⟨h1, ?_⟩
  rcases h2 with h2 | ⟨g, c, cur, e1, e2, e3⟩
  · exact Or.inl h2
  · exact Or.inr ⟨g, c, cur, e1, Nat.le_trans hb e2, e3⟩
theorem ownL_one (w : World) (base x : Nat) (hb : base ≤ w.heap.size) : OwnL (w.alloc (.cells #[.int .u64 ((limb 0 (x) : Nat) : Int), .int .u64 ((limb 1 (x) : Nat) : Int), .int .u64 ((limb 2 (x) : Nat) : Int), .int .u64 ((limb 3 (x) : Nat) : Int)] 25)) base (.slice (some ⟨w.heap.size, 0, none⟩) 1 1) [x] :=
  ⟨rfl, Or.inr ⟨w.heap.size, 1, #[.int .u64 ((limb 0 (x) : Nat) : Int), .int .u64 ((limb 1 (x) : Nat) : Int), .int .u64 ((limb 2 (x) : Nat) : Int), .int .u64 ((limb 3 (x) : Nat) : Int)], rfl, hb, new_blockE _ _, Nat.le_refl _, by decide, rfl, by first | rfl | (unfold els; rfl) | simp [els, List.range_succ]⟩⟩
theorem Rd4.same {w w' : World} {b o x : Nat} (h : Rd4 w b o x) (hb : w'.heap[b]? = w.heap[b]?) : Rd4 w' b o x := by
  obtain ⟨h0, h1, h2, h3⟩ := h
  simp only [World.cell?] at h0 h1 h2 h3
  exact ⟨by simp only [World.cell?, hb]; exact h0, by simp only [World.cell?, hb]; exact h1, by simp only [World.cell?, hb]; exact h2, by simp only [World.cell?, hb]; exact h3⟩
theorem run_append_keep (w : World) (base : Nat) (t ty e : TypeId) (i : TypeInfo) (z : Value) (size bytes : Nat) (ht : Tryz.prog.underlying t = some (.slice e)) (hi : Tryz.prog.info? e = some i) (hz : i.zero = some z)
    (hsize : i.size = size) (hby : i.bytes = bytes) (hzs : z.cells.size = size) (hsz : 0 < size)
    (v : Value) (n : Nat) (xs : List Value) (hown : w.ownsRow base e size v n xs)
    (a : Addr) (m c : Nat) (news : List Value) (hl : news.length = m * size) (hnews : ∀ j u, news[j]? = some u → w.cell? (a.add j) = some u) (h1 : ∀ u ∈ news, u.oneCell' = true)
    (h63 : n + m ≤ maxLen) (hbytes : (n + m) * bytes ≤ 140737488355328) (hbase : base ≤ w.heap.size) :
    ∃ v' w', (Builtin.append_ #[t, t] ty #[v, .slice (some a) m c]).run Tryz.prog w = .ok v' w' ∧ w'.ownsRow base e size v' (n + m) (xs ++ news) ∧ w.grownBy w' v.ownBlock ∧
      ∀ g, v.ownBlock = some g → ∀ j u, xs[j]? = some u → w'.cell? ⟨g, j, none⟩ = some u := by
  obtain ⟨v', w', hr, h2, h3, _⟩ := run_append_own (P := Tryz.prog) w base t ty e i z size bytes ht hi hz hsize hby hzs hsz v n xs hown a m c news hl hnews h1 h63 hbytes hbase
  refine ⟨v', w', hr, h2, h3, ?_⟩
  intro g hg j u hu
  subst hsize
  subst hby
  have hj : j < xs.length := (List.getElem?_eq_some_iff.1 hu).1
  have hadd : ∀ g' : Nat, (⟨g', 0, none⟩ : Addr).add j = ⟨g', j, none⟩ := fun g' => by unfold Addr.add; split <;> simp_all
  have holds := hown.cells hg j u hu
  rw [hadd] at holds
  rcases hown.2 with ⟨rfl, _⟩ | ⟨g', cap, cur, rfl, hbg, hgg, hnc, hcm, hcs, htake⟩
  · simp [Value.ownBlock] at hg
  · simp [Value.ownBlock] at hg
    subst hg
    by_cases hroom : n + m ≤ cap
    · have hfit : n * i.size + news.length ≤ cur.size := by rw [hl, hcs, ← Nat.add_mul]; exact Nat.mul_le_mul_right _ hroom
      have hr' := run_append_room (P := Tryz.prog) w t ty e i ht hi g' n cap cur hgg a m c news hl hnews h1 hroom hfit
      rw [hr] at hr'
      have hv : v' = .slice (some ⟨g', 0, none⟩) (n + m) cap := by injection hr'
      have h5 := h2.cells (g := g') (by rw [hv]; rfl) j u (by rw [List.getElem?_append_left hj]; exact hu)
      rw [hadd] at h5
      exact h5
    · have hsmall : n + m ≤ 9223372036854775807 := by simp only [maxLen] at h63; omega
      have hold : ∀ j u, xs[j]? = some u → w.cell? ((⟨g', 0, none⟩ : Addr).add j) = some u := hown.cells (g := g') rfl
      have hr' := run_append_grow (P := Tryz.prog) w t ty e i z ht hi hz ⟨g', 0, none⟩ n cap xs hown.1 hold a m c news hl hnews (by omega) (by omega) (growslice_fits (by omega) hbytes)
      rw [hr] at hr'
      have hw := (Result.ok.inj hr').2
      have hlt : g' < w.heap.size := (Array.getElem?_eq_some_iff.1 hgg).1
      have hsame : w'.heap[g']? = w.heap[g']? := by rw [hw]; exact heap_alloc_old w.drew _ hlt
      rw [← holds]
      simp only [World.cell?, hsame]
theorem wp_append_keep (w : World) {o : Oper} {a : Act} {K : Act → World → Prop} {Q : Exit → Act → World → Prop} (s x : Operand) (t : TypeId)
    (ho : o.op = .call { callee := .builtin .append, args := #[s, x], argTypes := #[t, t] })
    (base : Nat) (e : TypeId) (i : TypeInfo) (z : Value) (size bytes : Nat) (ht : Tryz.prog.underlying t = some (.slice e)) (hi : Tryz.prog.info? e = some i) (hz : i.zero = some z)
    (hsize : i.size = size) (hby : i.bytes = bytes) (hzs : z.cells.size = size) (hsz : 0 < size)
    (v : Value) (n : Nat) (xs : List Value) (hs : a.eval s = v) (hown : w.ownsRow base e size v n xs)
    (ad : Addr) (m c : Nat) (news : List Value) (hx : a.eval x = .slice (some ad) m c) (hl : news.length = m * size) (hnews : ∀ j u, news[j]? = some u → w.cell? (ad.add j) = some u) (h1 : ∀ u ∈ news, u.oneCell' = true)
    (h63 : n + m ≤ maxLen) (hbytes : (n + m) * bytes ≤ 140737488355328) (hbase : base ≤ w.heap.size)
    (h : ∀ v' w', w'.ownsRow base e size v' (n + m) (xs ++ news) → w.grownBy w' v.ownBlock → (∀ g, v.ownBlock = some g → ∀ j u, xs[j]? = some u → w'.cell? ⟨g, j, none⟩ = some u) → K (a.put o.dst v') w') : o.wp Tryz.prog a w K Q := by
  obtain ⟨v', w', hr, h2, h3, h4⟩ := run_append_keep w base t o.type e i z size bytes ht hi hz hsize hby hzs hsz v n xs hown ad m c news hl hnews h1 h63 hbytes hbase
  unfold Oper.wp execOp
  simp only [ho, resolve, invoke, builtin, Sem.run_bind, Sem.run_pure, Result.andThen_ok, List.map_toArray, List.map_cons, List.map_nil, hs, hx, hr]
  exact h v' w' h2 h3 h4
end Go.Proofs.YtfbfenljfdnggaaGreatDoor
