/- permute's joints. -/
import Derived.Test.YtoipnjfajandmaaDoorVPC3
namespace Go.Proofs.YtoipnjfajandmaaDoor
open Go.RowKit
/-- v is a list of the call's own: l. -/
def OwnL (w : World) (base : Nat) (v : Value) (l : List Nat) : Prop := w.ownsRow base 24 4 v l.length (els (fun i => l.getD i 0) l.length)
theorem els_push (l : List Nat) (x : Nat) : els (fun i => l.getD i 0) l.length ++ [.int .u64 ((limb 0 x : Nat) : Int), .int .u64 ((limb 1 x : Nat) : Int), .int .u64 ((limb 2 x : Nat) : Int), .int .u64 ((limb 3 x : Nat) : Int)] = els (fun i => (l ++ [x]).getD i 0) (l ++ [x]).length := by
  rw [List.length_append, List.length_singleton, els_succ]
  congr 1
  · refine els_congr (fun i hi => ?_)
    rw [List.getD_eq_getElem?_getD, List.getD_eq_getElem?_getD, List.getElem?_append_left hi]
  · simp [List.getD_eq_getElem?_getD]
theorem OwnL.push {w : World} {base : Nat} {v : Value} {l : List Nat} {x : Nat} (h : w.ownsRow base 24 4 v (l.length + 1) (els (fun i => l.getD i 0) l.length ++ [.int .u64 ((limb 0 x : Nat) : Int), .int .u64 ((limb 1 x : Nat) : Int), .int .u64 ((limb 2 x : Nat) : Int), .int .u64 ((limb 3 x : Nat) : Int)])) : OwnL w base v (l ++ [x]) := by
  unfold OwnL
  rw [els_push] at h
  rw [List.length_append, List.length_singleton] at h ⊢
  exact h
theorem OwnL.es {w : World} {base : Nat} {v : Value} {l : List Nat} (h : OwnL w base v l) : Es w v l.length (fun i => l.getD i 0) := own_Es h
theorem OwnL.below {w w' : World} {base : Nat} {v : Value} {l : List Nat} (h : OwnL w base v l) (hb : Below w.heap.size w w') : OwnL w' base v l := ownsRow_below h hb
theorem ownL_base {w : World} {base b2 : Nat} {v : Value} {l : List Nat} (h : OwnL w b2 v l) (hb : base ≤ b2) : OwnL w base v l := by
  obtain ⟨h1, h2⟩ := h
  refine ⟨h1, ?_⟩
  rcases h2 with h2 | ⟨g, c, cur, e1, e2, e3⟩
  · exact Or.inl h2
  · exact Or.inr ⟨g, c, cur, e1, Nat.le_trans hb e2, e3⟩
theorem ownL_one (w : World) (base x : Nat) (hb : base ≤ w.heap.size) : OwnL (w.alloc (.cells #[.int .u64 ((limb 0 (x) : Nat) : Int), .int .u64 ((limb 1 (x) : Nat) : Int), .int .u64 ((limb 2 (x) : Nat) : Int), .int .u64 ((limb 3 (x) : Nat) : Int)] 24)) base (.slice (some ⟨w.heap.size, 0, none⟩) 1 1) [x] :=
  ⟨rfl, Or.inr ⟨w.heap.size, 1, #[.int .u64 ((limb 0 (x) : Nat) : Int), .int .u64 ((limb 1 (x) : Nat) : Int), .int .u64 ((limb 2 (x) : Nat) : Int), .int .u64 ((limb 3 (x) : Nat) : Int)], rfl, hb, new_blockE _ _, Nat.le_refl _, by decide, rfl, by first | rfl | (unfold els; rfl) | simp [els, List.range_succ]⟩⟩
theorem Rd4.same {w w' : World} {b o x : Nat} (h : Rd4 w b o x) (hb : w'.heap[b]? = w.heap[b]?) : Rd4 w' b o x := by
  obtain ⟨h0, h1, h2, h3⟩ := h
  simp only [World.cell?] at h0 h1 h2 h3
  exact ⟨by simp only [World.cell?, hb]; exact h0, by simp only [World.cell?, hb]; exact h1, by simp only [World.cell?, hb]; exact h2, by simp only [World.cell?, hb]; exact h3⟩
theorem run_append_keep (w : World) (base : Nat) (t ty e : TypeId) (i : TypeInfo) (z : Value) (size bytes : Nat) (ht : Tryd.prog.underlying t = some (.slice e)) (hi : Tryd.prog.info? e = some i) (hz : i.zero = some z)
    (hsize : i.size = size) (hby : i.bytes = bytes) (hzs : z.cells.size = size) (hsz : 0 < size)
    (v : Value) (n : Nat) (xs : List Value) (hown : w.ownsRow base e size v n xs)
    (a : Addr) (m c : Nat) (news : List Value) (hl : news.length = m * size) (hnews : ∀ j u, news[j]? = some u → w.cell? (a.add j) = some u) (h1 : ∀ u ∈ news, u.oneCell' = true)
    (h63 : n + m ≤ maxLen) (hbytes : (n + m) * bytes ≤ 140737488355328) (hbase : base ≤ w.heap.size) :
    ∃ v' w', (Builtin.append_ #[t, t] ty #[v, .slice (some a) m c]).run Tryd.prog w = .ok v' w' ∧ w'.ownsRow base e size v' (n + m) (xs ++ news) ∧ w.grownBy w' v.ownBlock ∧
      ∀ g, v.ownBlock = some g → ∀ j u, xs[j]? = some u → w'.cell? ⟨g, j, none⟩ = some u := by
  obtain ⟨v', w', hr, h2, h3, _⟩ := run_append_own (P := Tryd.prog) w base t ty e i z size bytes ht hi hz hsize hby hzs hsz v n xs hown a m c news hl hnews h1 h63 hbytes hbase
  refine ⟨v', w', hr, h2, h3, ?_⟩
  intro g hg j u hu
  subst hsize
  subst hby
  have hj : j < xs.length := (List.getElem?_eq_some_iff.1 hu).1
  have hadd : ∀ g' : Nat, (⟨g', 0, none⟩ : Addr).add j = ⟨g', j, none⟩ := fun g' => by unfold Addr.add; split <;> simp_all
  have holds := hown.cells hg j u hu
  rw [hadd] at holds
  rcases hown.2 with ⟨rfl, _⟩ | ⟨g', cap, cur, rfl, hbg, hgg, hnc, hcm, hcs, htake⟩
  · simp [Value.ownBlock] at hg
  · simp [Value.ownBlock] at hg
    subst hg
    by_cases hroom : n + m ≤ cap
    · have hfit : n * i.size + news.length ≤ cur.size := by rw [hl, hcs, ← Nat.add_mul]; exact Nat.mul_le_mul_right _ hroom
      have hr' := run_append_room (P := Tryd.prog) w t ty e i ht hi g' n cap cur hgg a m c news hl hnews h1 hroom hfit
      rw [hr] at hr'
      have hv : v' = .slice (some ⟨g', 0, none⟩) (n + m) cap := by injection hr'
      have h5 := h2.cells (g := g') (by rw [hv]; rfl) j u (by rw [List.getElem?_append_left hj]; exact hu)
      rw [hadd] at h5
      exact h5
    · have hsmall : n + m ≤ 9223372036854775807 := by simp only [maxLen] at h63; omega
      have hold : ∀ j u, xs[j]? = some u → w.cell? ((⟨g', 0, none⟩ : Addr).add j) = some u := hown.cells (g := g') rfl
      have hr' := run_append_grow (P := Tryd.prog) w t ty e i z ht hi hz ⟨g', 0, none⟩ n cap xs hown.1 hold a m c news hl hnews (by omega) (by omega) (growslice_fits (by omega) hbytes)
      rw [hr] at hr'
      have hw := (Result.ok.inj hr').2
      have hlt : g' < w.heap.size := (Array.getElem?_eq_some_iff.1 hgg).1
      have hsame : w'.heap[g']? = w.heap[g']? := by rw [hw]; exact heap_alloc_old w.drew _ hlt
      rw [← holds]
      simp only [World.cell?, hsame]
theorem wp_append_keep (w : World) {o : Oper} {a : Act} {K : Act → World → Prop} {Q : Exit → Act → World → Prop} (s x : Operand) (t : TypeId)
    (ho : o.op = .call { callee := .builtin .append, args := #[s, x], argTypes := #[t, t] })
    (base : Nat) (e : TypeId) (i : TypeInfo) (z : Value) (size bytes : Nat) (ht : Tryd.prog.underlying t = some (.slice e)) (hi : Tryd.prog.info? e = some i) (hz : i.zero = some z)
    (hsize : i.size = size) (hby : i.bytes = bytes) (hzs : z.cells.size = size) (hsz : 0 < size)
    (v : Value) (n : Nat) (xs : List Value) (hs : a.eval s = v) (hown : w.ownsRow base e size v n xs)
    (ad : Addr) (m c : Nat) (news : List Value) (hx : a.eval x = .slice (some ad) m c) (hl : news.length = m * size) (hnews : ∀ j u, news[j]? = some u → w.cell? (ad.add j) = some u) (h1 : ∀ u ∈ news, u.oneCell' = true)
    (h63 : n + m ≤ maxLen) (hbytes : (n + m) * bytes ≤ 140737488355328) (hbase : base ≤ w.heap.size)
    (h : ∀ v' w', w'.ownsRow base e size v' (n + m) (xs ++ news) → w.grownBy w' v.ownBlock → (∀ g, v.ownBlock = some g → ∀ j u, xs[j]? = some u → w'.cell? ⟨g, j, none⟩ = some u) → K (a.put o.dst v') w') : o.wp Tryd.prog a w K Q := by
  obtain ⟨v', w', hr, h2, h3, h4⟩ := run_append_keep w base t o.type e i z size bytes ht hi hz hsize hby hzs hsz v n xs hown ad m c news hl hnews h1 h63 hbytes hbase
  unfold Oper.wp execOp
  simp only [ho, resolve, invoke, builtin, Sem.run_bind, Sem.run_pure, Result.andThen_ok, List.map_toArray, List.map_cons, List.map_nil, hs, hx, hr]
  exact h v' w' h2 h3 h4
/-- The first k + 1 of a row of numbers. -/
def zL (Z : Nat → Nat) (k : Nat) : List Nat := (List.range (k + 1)).map Z
theorem zL_succ (Z : Nat → Nat) (k : Nat) : zL Z (k + 1) = zL Z k ++ [Z (k + 1)] := by unfold zL; rw [List.range_succ, List.map_append]; rfl
theorem zL_len (Z : Nat → Nat) (k : Nat) : (zL Z k).length = k + 1 := by unfold zL; simp
/-- A spot's values. -/
def SpV (cs : Array Value) (x0 x1 x2 x3 : Nat) : Prop := cs.size = 16 ∧ El cs 0 x0 ∧ El cs 4 x1 ∧ El cs 8 x2 ∧ El cs 12 x3
/-- What joints answers: the starts, and at the end one more. -/
def jP (s fi : Nat) (At La : Nat → Nat) : Nat → Nat
  | 0 => mulP s fi (subP s 1 (At 0))
  | j + 1 => mulP s fi (subP s (At (j + 1)) (La j))
def jE (s la e : Nat) : Nat := mulP s la (subP s (mulP s e e) e)
set_option maxHeartbeats 8000000 in
set_option maxRecDepth 20000 in
/-- permute's joints. -/
theorem joints_any (s m cz zb zo x0 fi la x3 : Nat) (sp : Array Value) (At Nx La : Nat → Nat) (hs : s < 4) (hm : 0 < m ∧ m ≤ 1000) (hmz : m ≤ cz) (hS : SpV sp x0 fi la x3) (hfi : fi < 115792089237316195423570985008687907853269984665640564039457584007913129639936) (hla : la < 115792089237316195423570985008687907853269984665640564039457584007913129639936) (hAM : ∀ i, i < m → At i < 115792089237316195423570985008687907853269984665640564039457584007913129639936) (hLM : ∀ i, i < m → La i < 115792089237316195423570985008687907853269984665640564039457584007913129639936) (w : World) (hg : Glob w) (hc : CelS w zb zo m At Nx La) :
    Calls Tryd.prog 28 #[.int .i64 (s : Int), .agg sp, .slice (some ⟨zb, zo, none⟩) m cz] w fun e w' => (∃ v, e = .returned v ∧ OwnL w' w.heap.size v (zL (jP s fi At La) (m - 1) ++ [jE s la (At (m - 1))])) ∧ Below w.heap.size w w' := by
  obtain ⟨i0, hi, hz0, hz1, hz2⟩ := elemInfo
  have HI := (show Hid _ from hi); have HZ := (show Hid _ from And.intro hz0 (And.intro hz1 hz2)); clear hi hz0 hz1 hz2
  have HMU : Hid (∀ a b, a < 115792089237316195423570985008687907853269984665640564039457584007913129639936 → b < 115792089237316195423570985008687907853269984665640564039457584007913129639936 → ∀ w, Glob w → Calls Tryd.prog 44 #[.int .i64 (s : Int), .agg #[.int .u64 ((limb 0 (a) : Nat) : Int), .int .u64 ((limb 1 (a) : Nat) : Int), .int .u64 ((limb 2 (a) : Nat) : Int), .int .u64 ((limb 3 (a) : Nat) : Int)], .agg #[.int .u64 ((limb 0 (b) : Nat) : Int), .int .u64 ((limb 1 (b) : Nat) : Int), .int .u64 ((limb 2 (b) : Nat) : Int), .int .u64 ((limb 3 (b) : Nat) : Int)]] w fun e w' => e = .returned (.agg #[.int .u64 ((limb 0 (mulP s a b) : Nat) : Int), .int .u64 ((limb 1 (mulP s a b) : Nat) : Int), .int .u64 ((limb 2 (mulP s a b) : Nat) : Int), .int .u64 ((limb 3 (mulP s a b) : Nat) : Int)]) ∧ Below w.heap.size w w') := fun a b ha hb w hg => fMul_any s a b hs ha hb w hg
  have HSU : Hid (∀ a b, a < 115792089237316195423570985008687907853269984665640564039457584007913129639936 → b < 115792089237316195423570985008687907853269984665640564039457584007913129639936 → ∀ w, Glob w → Calls Tryd.prog 56 #[.int .i64 (s : Int), .agg #[.int .u64 ((limb 0 (a) : Nat) : Int), .int .u64 ((limb 1 (a) : Nat) : Int), .int .u64 ((limb 2 (a) : Nat) : Int), .int .u64 ((limb 3 (a) : Nat) : Int)], .agg #[.int .u64 ((limb 0 (b) : Nat) : Int), .int .u64 ((limb 1 (b) : Nat) : Int), .int .u64 ((limb 2 (b) : Nat) : Int), .int .u64 ((limb 3 (b) : Nat) : Int)]] w fun e w' => e = .returned (.agg #[.int .u64 ((limb 0 (subP s a b) : Nat) : Int), .int .u64 ((limb 1 (subP s a b) : Nat) : Int), .int .u64 ((limb 2 (subP s a b) : Nat) : Int), .int .u64 ((limb 3 (subP s a b) : Nat) : Int)]) ∧ Below w.heap.size w w') := fun a b ha hb w hg => fSub_any s a b hs ha hb w hg
  have HMM : Hid (∀ a b, mulP s a b < 115792089237316195423570985008687907853269984665640564039457584007913129639936 ∧ subP s a b < 115792089237316195423570985008687907853269984665640564039457584007913129639936) := fun a b => ⟨lt_M s _ (mulP_lt _ _ _), lt_M s _ (subP_lt _ _ _)⟩
  have HS1 : ∀ w, Glob w → Calls Tryd.prog 56 #[.int .i64 (s : Int), .agg #[.int .u64 ((limb 0 (1) : Nat) : Int), .int .u64 ((limb 1 (1) : Nat) : Int), .int .u64 ((limb 2 (1) : Nat) : Int), .int .u64 ((limb 3 (1) : Nat) : Int)], .agg #[.int .u64 ((limb 0 (At 0) : Nat) : Int), .int .u64 ((limb 1 (At 0) : Nat) : Int), .int .u64 ((limb 2 (At 0) : Nat) : Int), .int .u64 ((limb 3 (At 0) : Nat) : Int)]] w fun e w' => e = .returned (.agg #[.int .u64 ((limb 0 (subP s 1 (At 0)) : Nat) : Int), .int .u64 ((limb 1 (subP s 1 (At 0)) : Nat) : Int), .int .u64 ((limb 2 (subP s 1 (At 0)) : Nat) : Int), .int .u64 ((limb 3 (subP s 1 (At 0)) : Nat) : Int)]) ∧ Below w.heap.size w w' := HSU.out 1 (At 0) (by decide) (hAM 0 hm.1)
  rw [word_agg 1 (by decide)] at HS1
  have HSO : Hid (∀ w, Glob w → Calls Tryd.prog 56 #[.int .i64 (s : Int), .agg #[.int .u64 1, .int .u64 0, .int .u64 0, .int .u64 0], .agg #[.int .u64 ((limb 0 (At 0) : Nat) : Int), .int .u64 ((limb 1 (At 0) : Nat) : Int), .int .u64 ((limb 2 (At 0) : Nat) : Int), .int .u64 ((limb 3 (At 0) : Nat) : Int)]] w fun e w' => e = .returned (.agg #[.int .u64 ((limb 0 (subP s 1 (At 0)) : Nat) : Int), .int .u64 ((limb 1 (subP s 1 (At 0)) : Nat) : Int), .int .u64 ((limb 2 (subP s 1 (At 0)) : Nat) : Int), .int .u64 ((limb 3 (subP s 1 (At 0)) : Nat) : Int)]) ∧ Below w.heap.size w w') := HS1
  have HM1 : Hid (∀ w, Glob w → Calls Tryd.prog 44 #[.int .i64 (s : Int), .agg #[.int .u64 ((limb 0 (fi) : Nat) : Int), .int .u64 ((limb 1 (fi) : Nat) : Int), .int .u64 ((limb 2 (fi) : Nat) : Int), .int .u64 ((limb 3 (fi) : Nat) : Int)], .agg #[.int .u64 ((limb 0 (subP s 1 (At 0)) : Nat) : Int), .int .u64 ((limb 1 (subP s 1 (At 0)) : Nat) : Int), .int .u64 ((limb 2 (subP s 1 (At 0)) : Nat) : Int), .int .u64 ((limb 3 (subP s 1 (At 0)) : Nat) : Int)]] w fun e w' => e = .returned (.agg #[.int .u64 ((limb 0 (jP s fi At La 0) : Nat) : Int), .int .u64 ((limb 1 (jP s fi At La 0) : Nat) : Int), .int .u64 ((limb 2 (jP s fi At La 0) : Nat) : Int), .int .u64 ((limb 3 (jP s fi At La 0) : Nat) : Int)]) ∧ Below w.heap.size w w') := HMU.out fi _ hfi (HMM.out _ _).2
  have HJS : Hid (∀ j, j + 1 < m → ∀ w, Glob w → Calls Tryd.prog 56 #[.int .i64 (s : Int), .agg #[.int .u64 ((limb 0 (At (j + 1)) : Nat) : Int), .int .u64 ((limb 1 (At (j + 1)) : Nat) : Int), .int .u64 ((limb 2 (At (j + 1)) : Nat) : Int), .int .u64 ((limb 3 (At (j + 1)) : Nat) : Int)], .agg #[.int .u64 ((limb 0 (La j) : Nat) : Int), .int .u64 ((limb 1 (La j) : Nat) : Int), .int .u64 ((limb 2 (La j) : Nat) : Int), .int .u64 ((limb 3 (La j) : Nat) : Int)]] w fun e w' => e = .returned (.agg #[.int .u64 ((limb 0 (subP s (At (j + 1)) (La j)) : Nat) : Int), .int .u64 ((limb 1 (subP s (At (j + 1)) (La j)) : Nat) : Int), .int .u64 ((limb 2 (subP s (At (j + 1)) (La j)) : Nat) : Int), .int .u64 ((limb 3 (subP s (At (j + 1)) (La j)) : Nat) : Int)]) ∧ Below w.heap.size w w') := fun j hj => HSU.out _ _ (hAM _ hj) (hLM _ (by omega))
  have HJM : Hid (∀ j, ∀ w, Glob w → Calls Tryd.prog 44 #[.int .i64 (s : Int), .agg #[.int .u64 ((limb 0 (fi) : Nat) : Int), .int .u64 ((limb 1 (fi) : Nat) : Int), .int .u64 ((limb 2 (fi) : Nat) : Int), .int .u64 ((limb 3 (fi) : Nat) : Int)], .agg #[.int .u64 ((limb 0 (subP s (At (j + 1)) (La j)) : Nat) : Int), .int .u64 ((limb 1 (subP s (At (j + 1)) (La j)) : Nat) : Int), .int .u64 ((limb 2 (subP s (At (j + 1)) (La j)) : Nat) : Int), .int .u64 ((limb 3 (subP s (At (j + 1)) (La j)) : Nat) : Int)]] w fun e w' => e = .returned (.agg #[.int .u64 ((limb 0 (jP s fi At La (j + 1)) : Nat) : Int), .int .u64 ((limb 1 (jP s fi At La (j + 1)) : Nat) : Int), .int .u64 ((limb 2 (jP s fi At La (j + 1)) : Nat) : Int), .int .u64 ((limb 3 (jP s fi At La (j + 1)) : Nat) : Int)]) ∧ Below w.heap.size w w') := fun j => HMU.out fi _ hfi (HMM.out _ _).2
  obtain ⟨en, een⟩ : ∃ z, z = At (m - 1) := ⟨_, rfl⟩
  have henM : en < 115792089237316195423570985008687907853269984665640564039457584007913129639936 := by rw [een]; exact hAM _ (by omega)
  have HE1 : Hid (∀ w, Glob w → Calls Tryd.prog 44 #[.int .i64 (s : Int), .agg #[.int .u64 ((limb 0 (en) : Nat) : Int), .int .u64 ((limb 1 (en) : Nat) : Int), .int .u64 ((limb 2 (en) : Nat) : Int), .int .u64 ((limb 3 (en) : Nat) : Int)], .agg #[.int .u64 ((limb 0 (en) : Nat) : Int), .int .u64 ((limb 1 (en) : Nat) : Int), .int .u64 ((limb 2 (en) : Nat) : Int), .int .u64 ((limb 3 (en) : Nat) : Int)]] w fun e w' => e = .returned (.agg #[.int .u64 ((limb 0 (mulP s en en) : Nat) : Int), .int .u64 ((limb 1 (mulP s en en) : Nat) : Int), .int .u64 ((limb 2 (mulP s en en) : Nat) : Int), .int .u64 ((limb 3 (mulP s en en) : Nat) : Int)]) ∧ Below w.heap.size w w') := HMU.out en en henM henM
  have HE2 : Hid (∀ w, Glob w → Calls Tryd.prog 56 #[.int .i64 (s : Int), .agg #[.int .u64 ((limb 0 (mulP s en en) : Nat) : Int), .int .u64 ((limb 1 (mulP s en en) : Nat) : Int), .int .u64 ((limb 2 (mulP s en en) : Nat) : Int), .int .u64 ((limb 3 (mulP s en en) : Nat) : Int)], .agg #[.int .u64 ((limb 0 (en) : Nat) : Int), .int .u64 ((limb 1 (en) : Nat) : Int), .int .u64 ((limb 2 (en) : Nat) : Int), .int .u64 ((limb 3 (en) : Nat) : Int)]] w fun e w' => e = .returned (.agg #[.int .u64 ((limb 0 (subP s (mulP s en en) en) : Nat) : Int), .int .u64 ((limb 1 (subP s (mulP s en en) en) : Nat) : Int), .int .u64 ((limb 2 (subP s (mulP s en en) en) : Nat) : Int), .int .u64 ((limb 3 (subP s (mulP s en en) en) : Nat) : Int)]) ∧ Below w.heap.size w w') := HSU.out _ en (HMM.out _ _).1 henM
  have HE3 : Hid (∀ w, Glob w → Calls Tryd.prog 44 #[.int .i64 (s : Int), .agg #[.int .u64 ((limb 0 (la) : Nat) : Int), .int .u64 ((limb 1 (la) : Nat) : Int), .int .u64 ((limb 2 (la) : Nat) : Int), .int .u64 ((limb 3 (la) : Nat) : Int)], .agg #[.int .u64 ((limb 0 (subP s (mulP s en en) en) : Nat) : Int), .int .u64 ((limb 1 (subP s (mulP s en en) en) : Nat) : Int), .int .u64 ((limb 2 (subP s (mulP s en en) en) : Nat) : Int), .int .u64 ((limb 3 (subP s (mulP s en en) en) : Nat) : Int)]] w fun e w' => e = .returned (.agg #[.int .u64 ((limb 0 (jE s la en) : Nat) : Int), .int .u64 ((limb 1 (jE s la en) : Nat) : Int), .int .u64 ((limb 2 (jE s la en) : Nat) : Int), .int .u64 ((limb 3 (jE s la en) : Nat) : Int)]) ∧ Below w.heap.size w w') := HMU.out la _ hla (HMM.out _ _).2
  rw [← een]
  have HEN : Hid (en = At (m - 1)) := een
  obtain ⟨eq1, e1⟩ : ∃ z, z = mulP s en en := ⟨_, rfl⟩
  rw [← e1] at HE1 HE2 HE3
  obtain ⟨eq2, e2⟩ : ∃ z, z = subP s eq1 en := ⟨_, rfl⟩
  rw [← e2] at HE2 HE3
  obtain ⟨eq3, e3⟩ : ∃ z, z = jE s la en := ⟨_, rfl⟩
  rw [← e3] at HE3 ⊢
  obtain ⟨sb, esb⟩ : ∃ sb : Nat → Nat, sb = fun j => subP s (At (j + 1)) (La j) := ⟨_, rfl⟩
  have HJS2 : Hid (∀ j, j + 1 < m → ∀ w, Glob w → Calls Tryd.prog 56 #[.int .i64 (s : Int), .agg #[.int .u64 ((limb 0 (At (j + 1)) : Nat) : Int), .int .u64 ((limb 1 (At (j + 1)) : Nat) : Int), .int .u64 ((limb 2 (At (j + 1)) : Nat) : Int), .int .u64 ((limb 3 (At (j + 1)) : Nat) : Int)], .agg #[.int .u64 ((limb 0 (La j) : Nat) : Int), .int .u64 ((limb 1 (La j) : Nat) : Int), .int .u64 ((limb 2 (La j) : Nat) : Int), .int .u64 ((limb 3 (La j) : Nat) : Int)]] w fun e w' => e = .returned (.agg #[.int .u64 ((limb 0 (sb j) : Nat) : Int), .int .u64 ((limb 1 (sb j) : Nat) : Int), .int .u64 ((limb 2 (sb j) : Nat) : Int), .int .u64 ((limb 3 (sb j) : Nat) : Int)]) ∧ Below w.heap.size w w') := by rw [esb]; exact HJS
  have HJM2 : Hid (∀ j, ∀ w, Glob w → Calls Tryd.prog 44 #[.int .i64 (s : Int), .agg #[.int .u64 ((limb 0 (fi) : Nat) : Int), .int .u64 ((limb 1 (fi) : Nat) : Int), .int .u64 ((limb 2 (fi) : Nat) : Int), .int .u64 ((limb 3 (fi) : Nat) : Int)], .agg #[.int .u64 ((limb 0 (sb j) : Nat) : Int), .int .u64 ((limb 1 (sb j) : Nat) : Int), .int .u64 ((limb 2 (sb j) : Nat) : Int), .int .u64 ((limb 3 (sb j) : Nat) : Int)]] w fun e w' => e = .returned (.agg #[.int .u64 ((limb 0 (jP s fi At La (j + 1)) : Nat) : Int), .int .u64 ((limb 1 (jP s fi At La (j + 1)) : Nat) : Int), .int .u64 ((limb 2 (jP s fi At La (j + 1)) : Nat) : Int), .int .u64 ((limb 3 (jP s fi At La (j + 1)) : Nat) : Int)]) ∧ Below w.heap.size w w') := by rw [esb]; exact HJM
  obtain ⟨s1, es1⟩ : ∃ z, z = subP s 1 (At 0) := ⟨_, rfl⟩
  rw [← es1] at HSO HM1
  obtain ⟨jp, ejp⟩ : ∃ jp, jp = jP s fi At La := ⟨_, rfl⟩
  rw [← ejp] at HM1 HJM2 ⊢
  obtain ⟨p0, ep0⟩ : ∃ z, z = At 0 := ⟨_, rfl⟩
  rw [← ep0] at HSO
  obtain ⟨j0, ej0⟩ : ∃ z, z = jp 0 := ⟨_, rfl⟩
  rw [← ej0] at HM1
  obtain ⟨si, esi⟩ : ∃ z : Int, z = (s : Int) := ⟨_, rfl⟩
  rw [← esi] at HSO HM1 HE1 HE2 HE3 HJS2 HJM2 ⊢
  have HG : Hid (Glob w) := hg
  have HCL : Hid (CelS w zb zo m At Nx La) := hc
  have HSV : Hid (SpV sp x0 fi la x3) := hS
  have HMB : Hid (0 < m ∧ m ≤ 1000 ∧ m ≤ cz) := ⟨hm.1, hm.2, hmz⟩
  have HP0 : Hid (p0 = At 0 ∧ j0 = jp 0) := ⟨ep0, ej0⟩
  have h0m : (0 : Int) < (m : Int) := by omega
  have h1m : (1 : Int) ≤ (m : Int) := by omega
  have h1c : (1 : Int) ≤ (cz : Int) := by omega
  have h1m' : 1 ≤ m := by omega
  have h1c' : 1 ≤ cz := by omega
  have hm0 : ¬ m = 0 := by omega
  obtain ⟨oA, hoA⟩ : ∃ oA : Option Addr, (if cz = 1 then some ⟨zb, zo, none⟩ else some ⟨zb, zo + 12, none⟩) = oA := ⟨_, rfl⟩
  have HOA : Hid (2 ≤ m → oA = some ⟨zb, zo + 12, none⟩) := fun h => by rw [← hoA, if_neg (by omega)]
  clear hg hc hS hm hs hfi hla hAM hLM HMU HSU HMM HS1 HJS HJM een e1 e2 e3 es1 ejp ep0 ej0 esi esb henM hmz
  go_enter Tryd.func28, Tryd.ntmps28
  go_upto_region 1 with fail
  obtain ⟨N4, e0⟩ : ∃ z, z = w.heap.size := ⟨_, rfl⟩
  obtain ⟨w1, hw1⟩ : ∃ z : World, z = w.alloc (.cells sp 27) := ⟨_, rfl⟩
  have b4 : Lay w1 27 N4 sp := by rw [hw1]; exact Lay.newAt _ _ _ e0
  have hb1 : Below w.heap.size w w1 := by rw [hw1]; exact bAlloc (Below.refl _ _) _
  rw [← hw1]
  try rw [← e0]
  have l4 : w.heap.size ≤ N4 := by omega
  clear hw1 e0 
  have HG1 : Hid (Glob w1) := HG.out.below hb1
  have K0 : Rd4 w1 N4 4 fi := b4.el HSV.out.2.2.1
  have c1 := (HCL.out.below hb1 HCL.out.1).2 0 HMB.out.1
  have K1 : Rd4 w1 zb zo p0 := by
    rw [HP0.out.1]
    have q0 := c1.1 0 (by decide); have q1 := c1.1 1 (by decide); have q2 := c1.1 2 (by decide); have q3 := c1.1 3 (by decide)
    simp only [Nat.zero_mul, Nat.add_zero] at q0 q1 q2 q3
    exact ⟨q0, q1, q2, q3⟩
  have kl0 : N4 < w1.heap.size := b4.lt
  have kl1 : zb < w1.heap.size := Nat.lt_of_lt_of_le HCL.out.1 hb1.size
  clear c1
  refine wp_region_Z (fun w' => Rd4 w' N4 4 fi ∧ Rd4 w' zb (zo) p0) 99 (by kernel_rfl) ?_
  obtain ⟨wD, hD⟩ : ∃ z : World, z = w1.drew := ⟨_, rfl⟩
  rw [← hD]
  have lowD : Below w1.heap.size w1 wD := by rw [hD]; exact (Below.refl _ _).drew
  clear hD
  have HS0 : Rd4 wD N4 4 fi ∧ Rd4 wD zb (zo) p0 := ⟨K0.below lowD kl0, K1.below lowD kl1⟩
  refine wpZ_take (i := 0) (v := .int .i64 si) 11 rfl rfl (by kernel_rfl) (by kernel_rfl) (by kernel_rfl) (Or.inr (by decide)) (fun _ _ _ h => h) (Or.inl ⟨by rfl, fun w hSw => by go_simp⟩) HS0 ?_
  simp only [Act.put, List.setIfInBounds_toArray]
  try dsimp only [List.set_cons_zero, List.set_cons_succ]
  refine wpZ_take (i := 1) (v := .pointer (some ⟨N4, 4, none⟩)) 12 rfl rfl (by kernel_rfl) (by kernel_rfl) (by kernel_rfl) (Or.inr (by decide)) (fun _ _ _ h => h) (Or.inl ⟨by rfl, fun w hSw => by go_simp⟩) HS0 ?_
  simp only [Act.put, List.setIfInBounds_toArray]
  try dsimp only [List.set_cons_zero, List.set_cons_succ]
  refine wpZ_take (i := 2) (v := .agg #[.int .u64 ((limb 0 (fi) : Nat) : Int), .int .u64 ((limb 1 (fi) : Nat) : Int), .int .u64 ((limb 2 (fi) : Nat) : Int), .int .u64 ((limb 3 (fi) : Nat) : Int)]) 13 rfl rfl (by kernel_rfl) (by kernel_rfl) (by kernel_rfl) (Or.inr (by decide)) (fun _ _ _ h => h) (Or.inl ⟨by rfl, fun w hSw => by (obtain ⟨q0, q1, q2, q3⟩ : w.cell? ⟨N4, 4, none⟩ = _ ∧ w.cell? ⟨N4, 5, none⟩ = _ ∧ w.cell? ⟨N4, 6, none⟩ = _ ∧ w.cell? ⟨N4, 7, none⟩ = _ := hSw.1; clear hSw; go_simp)⟩) HS0 ?_
  simp only [Act.put, List.setIfInBounds_toArray]
  try dsimp only [List.set_cons_zero, List.set_cons_succ]
  refine wpZ_take (i := 3) (v := .int .i64 si) 14 rfl rfl (by kernel_rfl) (by kernel_rfl) (by kernel_rfl) (Or.inr (by decide)) (fun _ _ _ h => h) (Or.inl ⟨by rfl, fun w hSw => by go_simp⟩) HS0 ?_
  simp only [Act.put, List.setIfInBounds_toArray]
  try dsimp only [List.set_cons_zero, List.set_cons_succ]
  refine wpZ_take (i := 4) (v := .agg #[.int .u64 1, .int .u64 0, .int .u64 0, .int .u64 0]) 15 rfl rfl (by kernel_rfl) (by kernel_rfl) (by kernel_rfl) (Or.inr (by decide)) (fun _ _ _ h => h) (Or.inl ⟨by rfl, fun w hSw => by go_simp⟩) HS0 ?_
  simp only [Act.put, List.setIfInBounds_toArray]
  try dsimp only [List.set_cons_zero, List.set_cons_succ]
  refine wpZ_take (i := 5) (v := .slice (some ⟨zb, zo, none⟩) m cz) 16 rfl rfl (by kernel_rfl) (by kernel_rfl) (by kernel_rfl) (Or.inr (by decide)) (fun _ _ _ h => h) (Or.inl ⟨by rfl, fun w hSw => by go_simp⟩) HS0 ?_
  simp only [Act.put, List.setIfInBounds_toArray]
  try dsimp only [List.set_cons_zero, List.set_cons_succ]
  refine wpZ_take (i := 6) (v := .pointer (some ⟨zb, zo, none⟩)) 17 rfl rfl (by kernel_rfl) (by kernel_rfl) (by kernel_rfl) (Or.inr (by decide)) (fun _ _ _ h => h) (Or.inl ⟨by rfl, fun w hSw => by go_simp⟩) HS0 ?_
  simp only [Act.put, List.setIfInBounds_toArray]
  try dsimp only [List.set_cons_zero, List.set_cons_succ]
  refine wpZ_take (i := 7) (v := .pointer (some ⟨zb, zo, none⟩)) 18 rfl rfl (by kernel_rfl) (by kernel_rfl) (by kernel_rfl) (Or.inr (by decide)) (fun _ _ _ h => h) (Or.inl ⟨by rfl, fun w hSw => by go_simp⟩) HS0 ?_
  simp only [Act.put, List.setIfInBounds_toArray]
  try dsimp only [List.set_cons_zero, List.set_cons_succ]
  refine wpZ_take (i := 8) (v := .agg #[.int .u64 ((limb 0 (p0) : Nat) : Int), .int .u64 ((limb 1 (p0) : Nat) : Int), .int .u64 ((limb 2 (p0) : Nat) : Int), .int .u64 ((limb 3 (p0) : Nat) : Int)]) 19 rfl rfl (by kernel_rfl) (by kernel_rfl) (by kernel_rfl) (Or.inr (by decide)) (fun _ _ _ h => h) (Or.inl ⟨by rfl, fun w hSw => by (obtain ⟨q0, q1, q2, q3⟩ : w.cell? ⟨zb, zo, none⟩ = _ ∧ w.cell? ⟨zb, zo + 1, none⟩ = _ ∧ w.cell? ⟨zb, zo + 2, none⟩ = _ ∧ w.cell? ⟨zb, zo + 3, none⟩ = _ := hSw.2; clear hSw; go_simp)⟩) HS0 ?_
  simp only [Act.put, List.setIfInBounds_toArray]
  try dsimp only [List.set_cons_zero, List.set_cons_succ]
  refine wpZ_one (i := 9) (by kernel_rfl) rfl (fun K hK => ?_)
  go_simp
  refine (HSO.out wD (HG1.out.below lowD)).mono ?_
  rintro e wE1 ⟨rfl, hbx1⟩
  have lowwE1 := bStep lowD hbx1
  have SwE1 : Rd4 wE1 N4 4 fi ∧ Rd4 wE1 zb (zo) p0 := ⟨K0.below lowwE1 kl0, K1.below lowwE1 kl1⟩
  go_wp2_with fail
  refine hK.out _ _ (fun _ => SwE1) ?_
  clear hK K hbx1
  refine wpZ_one (i := 10) (by kernel_rfl) rfl (fun K hK => ?_)
  go_simp
  refine (HM1.out wE1 (HG1.out.below lowwE1)).mono ?_
  rintro e wE2 ⟨rfl, hbx2⟩
  have lowwE2 := bStep lowwE1 hbx2
  have SwE2 : Rd4 wE2 N4 4 fi ∧ Rd4 wE2 zb (zo) p0 := ⟨K0.below lowwE2 kl0, K1.below lowwE2 kl1⟩
  go_wp2_with fail
  refine hK.out _ _ (fun _ => SwE2) ?_
  clear hK K hbx2
  refine wpZ_one (i := 11) (by kernel_rfl) rfl (fun K hK => ?_)
  go_simp
  obtain ⟨w2, hw2⟩ : ∃ z : World, z = wE2.alloc (.cells #[.int .u64 ((limb 0 j0 : Nat) : Int), .int .u64 ((limb 1 j0 : Nat) : Int), .int .u64 ((limb 2 j0 : Nat) : Int), .int .u64 ((limb 3 j0 : Nat) : Int)] 24) := ⟨_, rfl⟩
  obtain ⟨BZ, eBZ⟩ : ∃ z, z = wE2.heap.size := ⟨_, rfl⟩
  have own2 : OwnL w2 BZ (.slice (some ⟨BZ, 0, none⟩) 1 1) (zL jp 0) := by
    have h := ownL_one wE2 wE2.heap.size j0 (Nat.le_refl _)
    rw [hw2, eBZ, show zL jp 0 = [j0] by unfold zL; rw [HP0.out.2]; rfl]
    exact h
  have hbn : Below wE2.heap.size wE2 w2 := by rw [hw2]; exact bAlloc (Below.refl _ _) _
  have hb2 := bStep lowwE2 hbn
  have lBZ1 : w1.heap.size ≤ BZ := by rw [eBZ]; exact (lowwE2).size
  have lBZ2 : BZ ≤ w2.heap.size := by rw [eBZ]; exact hbn.size
  have S2 : Rd4 w2 N4 4 fi ∧ Rd4 w2 zb (zo) p0 := ⟨K0.below hb2 kl0, K1.below hb2 kl1⟩
  rw [← hw2, ← eBZ]
  refine hK.out _ _ (fun _ => S2) ?_
  clear hK K hw2 eBZ hbn
  refine wpZ_take (i := 12) (v := .slice (some ⟨BZ, 0, none⟩) 1 1) 7 rfl rfl (by kernel_rfl) (by kernel_rfl) (by kernel_rfl) (Or.inr (by decide)) (fun _ _ _ h => h) (Or.inl ⟨by rfl, fun w hSw => by go_simp⟩) S2 ?_
  simp only [Act.put, List.setIfInBounds_toArray]
  try dsimp only [List.set_cons_zero, List.set_cons_succ]
  refine wpZ_done (by kernel_rfl) ?_ _
  have b42 := b4.belowAll hb2
  have hbw2 := bStep hb1 hb2
  have lwB : w.heap.size ≤ BZ := Nat.le_trans hb1.size lBZ1
  have HB4 : Hid (Lay w2 27 N4 sp ∧ N4 < BZ) := ⟨b42, Nat.lt_of_lt_of_le kl0 lBZ1⟩
  have HBW : Hid (Below w.heap.size w w2 ∧ w.heap.size ≤ BZ) := ⟨hbw2, lwB⟩
  clear b4 b42 K0 K1 kl0 kl1 hb1 hb2 hbw2 HG1 lBZ1 HSO HM1 lwB S2
  go_upto_region 3 with fail
  obtain ⟨n, en⟩ : ∃ n, n = m - 1 := ⟨_, rfl⟩
  have HN : Hid (n + 1 = m ∧ n = m - 1) := by show _ ∧ _; omega
  rw [← en]
  clear hoA en h1m h1c h1m' h1c'
  go_wp2
  go_loopw [7, 26] (fun zv jv wr => ∃ j : Nat, jv = .int .i64 (j : Int) ∧ j ≤ n ∧ OwnL wr BZ zv (zL jp j) ∧ Below BZ w2 wr ∧ BZ ≤ wr.heap.size) (fun _ jv _ => n - (intOf jv).toNat)
  case atStart => exact ⟨0, rfl, Nat.zero_le _, own2, Below.refl _ _, lBZ2⟩
  case round =>
    obtain ⟨j, rfl, hj, own, hb, lBr⟩ := hrel
    clear own2 lBZ2
    have hn9 : n ≤ 1000 := by have := HN.out.1; have := HMB.out.2.1; omega
    have hbw : Below w.heap.size w wr := HBW.out.1.trans (hb.mono HBW.out.2)
    have p4 := HB4.out.1.below hb HB4.out.2
    have hcl := HCL.out.below hbw HCL.out.1
    have lzr : zb < wr.heap.size := hcl.1
    have lzB : zb < BZ := Nat.lt_of_lt_of_le HCL.out.1 HBW.out.2
    have l4B := HB4.out.2
    by_cases hlt : j < n
    · have hji : (j : Int) < (n : Int) := by omega
      have hjm : (j : Int) < (m : Int) := by have := HN.out.1; omega
      have hjm' : j < m := by have := HN.out.1; omega
      have hoA2 := HOA.out (by have := HN.out.1; omega)
      subst hoA2
      obtain ⟨L, eL⟩ : ∃ L, L = zL jp j := ⟨_, rfl⟩
      have HL : Hid (L.length = j + 1 ∧ zL jp (j + 1) = L ++ [jp (j + 1)]) := by rw [eL]; exact ⟨zL_len _ _, zL_succ _ _⟩
      rw [← eL] at own
      clear eL
      have hL9 : L.length ≤ 1001 := by have := HL.out.1; omega
      obtain ⟨hA4, hB4', hC4⟩ := hcl.2 (j + 1) (by have := HN.out.1; omega)
      obtain ⟨_, _, hK4⟩ := hcl.2 j hjm'
      obtain ⟨a, ea⟩ : ∃ a, a = At (j + 1) := ⟨_, rfl⟩
      obtain ⟨b, eb⟩ : ∃ b, b = Nx (j + 1) := ⟨_, rfl⟩
      obtain ⟨c, ec⟩ : ∃ c, c = La (j + 1) := ⟨_, rfl⟩
      obtain ⟨d, ed⟩ : ∃ d, d = La j := ⟨_, rfl⟩
      have HSJ : Hid (∀ w, Glob w → _) := HJS2.out j (by have := HN.out.1; omega)
      have HMJ : Hid (∀ w, Glob w → _) := HJM2.out j
      rw [← ea] at hA4 HSJ
      rw [← eb] at hB4'
      rw [← ec] at hC4
      rw [← ed] at hK4 HSJ
      obtain ⟨t, et⟩ : ∃ t, t = sb j := ⟨_, rfl⟩
      rw [← et] at HSJ HMJ
      obtain ⟨y, ey⟩ : ∃ y, y = jp (j + 1) := ⟨_, rfl⟩
      rw [← ey] at HMJ HL
      have c0 : wr.cell? ⟨zb, zo + 12 + j * 12, none⟩ = some (.int .u64 ((limb 0 a : Nat) : Int)) := by have q := hA4 0 (by decide); rw [show zo + (j + 1) * 12 + 0 = zo + 12 + j * 12 by omega] at q; exact q
      have c1 : wr.cell? ⟨zb, zo + 12 + j * 12 + 1, none⟩ = some (.int .u64 ((limb 1 a : Nat) : Int)) := by have q := hA4 1 (by decide); rw [show zo + (j + 1) * 12 + 1 = zo + 12 + j * 12 + 1 by omega] at q; exact q
      have c2 : wr.cell? ⟨zb, zo + 12 + j * 12 + 2, none⟩ = some (.int .u64 ((limb 2 a : Nat) : Int)) := by have q := hA4 2 (by decide); rw [show zo + (j + 1) * 12 + 2 = zo + 12 + j * 12 + 2 by omega] at q; exact q
      have c3 : wr.cell? ⟨zb, zo + 12 + j * 12 + 3, none⟩ = some (.int .u64 ((limb 3 a : Nat) : Int)) := by have q := hA4 3 (by decide); rw [show zo + (j + 1) * 12 + 3 = zo + 12 + j * 12 + 3 by omega] at q; exact q
      have c4 : wr.cell? ⟨zb, zo + 12 + j * 12 + 4, none⟩ = some (.int .u64 ((limb 0 b : Nat) : Int)) := by have q := hB4' 0 (by decide); rw [show zo + (j + 1) * 12 + 4 + 0 = zo + 12 + j * 12 + 4 by omega] at q; exact q
      have c5 : wr.cell? ⟨zb, zo + 12 + j * 12 + 5, none⟩ = some (.int .u64 ((limb 1 b : Nat) : Int)) := by have q := hB4' 1 (by decide); rw [show zo + (j + 1) * 12 + 4 + 1 = zo + 12 + j * 12 + 5 by omega] at q; exact q
      have c6 : wr.cell? ⟨zb, zo + 12 + j * 12 + 6, none⟩ = some (.int .u64 ((limb 2 b : Nat) : Int)) := by have q := hB4' 2 (by decide); rw [show zo + (j + 1) * 12 + 4 + 2 = zo + 12 + j * 12 + 6 by omega] at q; exact q
      have c7 : wr.cell? ⟨zb, zo + 12 + j * 12 + 7, none⟩ = some (.int .u64 ((limb 3 b : Nat) : Int)) := by have q := hB4' 3 (by decide); rw [show zo + (j + 1) * 12 + 4 + 3 = zo + 12 + j * 12 + 7 by omega] at q; exact q
      have c8 : wr.cell? ⟨zb, zo + 12 + j * 12 + 8, none⟩ = some (.int .u64 ((limb 0 c : Nat) : Int)) := by have q := hC4 0 (by decide); rw [show zo + (j + 1) * 12 + 8 + 0 = zo + 12 + j * 12 + 8 by omega] at q; exact q
      have c9 : wr.cell? ⟨zb, zo + 12 + j * 12 + 9, none⟩ = some (.int .u64 ((limb 1 c : Nat) : Int)) := by have q := hC4 1 (by decide); rw [show zo + (j + 1) * 12 + 8 + 1 = zo + 12 + j * 12 + 9 by omega] at q; exact q
      have c10 : wr.cell? ⟨zb, zo + 12 + j * 12 + 10, none⟩ = some (.int .u64 ((limb 2 c : Nat) : Int)) := by have q := hC4 2 (by decide); rw [show zo + (j + 1) * 12 + 8 + 2 = zo + 12 + j * 12 + 10 by omega] at q; exact q
      have c11 : wr.cell? ⟨zb, zo + 12 + j * 12 + 11, none⟩ = some (.int .u64 ((limb 3 c : Nat) : Int)) := by have q := hC4 3 (by decide); rw [show zo + (j + 1) * 12 + 8 + 3 = zo + 12 + j * 12 + 11 by omega] at q; exact q
      have K1 : Rd4 wr zb (zo + j * 12 + 8) d := ⟨hK4 0 (by decide), hK4 1 (by decide), hK4 2 (by decide), hK4 3 (by decide)⟩
      have K0 : Rd4 wr N4 4 fi := p4.el HSV.out.2.2.1
      clear hA4 hB4' hC4 hK4 ea eb ec ed et ey hcl
      rcases own.2 with ⟨_, h0⟩ | ⟨lb, cap, cur, rfl, hbz, hgz, hcp, hcm, hcs, htk⟩
      · exact absurd h0 (by have := HL.out.1; omega)
      have llb : lb < wr.heap.size := (Array.getElem?_eq_some_iff.1 hgz).1
      clear hgz hcs htk
      go_upto_region 5 with fail
      obtain ⟨wa, hwa⟩ : ∃ z : World, z = wr.alloc (.cells #[.int .u64 ((limb 0 a : Nat) : Int), .int .u64 ((limb 1 a : Nat) : Int), .int .u64 ((limb 2 a : Nat) : Int), .int .u64 ((limb 3 a : Nat) : Int), .int .u64 ((limb 0 b : Nat) : Int), .int .u64 ((limb 1 b : Nat) : Int), .int .u64 ((limb 2 b : Nat) : Int), .int .u64 ((limb 3 b : Nat) : Int), .int .u64 ((limb 0 c : Nat) : Int), .int .u64 ((limb 1 c : Nat) : Int), .int .u64 ((limb 2 c : Nat) : Int), .int .u64 ((limb 3 c : Nat) : Int)] 62) := ⟨_, rfl⟩
      obtain ⟨N9, e9⟩ : ∃ z, z = wr.heap.size := ⟨_, rfl⟩
      have b9 : Lay wa 62 N9 #[.int .u64 ((limb 0 a : Nat) : Int), .int .u64 ((limb 1 a : Nat) : Int), .int .u64 ((limb 2 a : Nat) : Int), .int .u64 ((limb 3 a : Nat) : Int), .int .u64 ((limb 0 b : Nat) : Int), .int .u64 ((limb 1 b : Nat) : Int), .int .u64 ((limb 2 b : Nat) : Int), .int .u64 ((limb 3 b : Nat) : Int), .int .u64 ((limb 0 c : Nat) : Int), .int .u64 ((limb 1 c : Nat) : Int), .int .u64 ((limb 2 c : Nat) : Int), .int .u64 ((limb 3 c : Nat) : Int)] := by rw [hwa]; exact Lay.newAt _ _ _ e9
      have hbn : Below wr.heap.size wr wa := by rw [hwa]; exact bAlloc (Below.refl _ _) _
      have G0 := K0.below hbn p4.lt; have G2 := K1.below hbn lzr
      have G1 : Rd4 wa N9 0 a := b9.el ⟨rfl, rfl, rfl, rfl⟩
      have own5 := own.below hbn
      have gl0 : N4 < wa.heap.size := Nat.lt_of_lt_of_le p4.lt hbn.size
      have gl1 : N9 < wa.heap.size := b9.lt
      have gl2 : zb < wa.heap.size := Nat.lt_of_lt_of_le lzr hbn.size
      have hba : Below BZ w2 wa := hb.trans (hbn.mono lBr)
      have lBa : BZ ≤ wa.heap.size := Nat.le_trans lBr hbn.size
      have HGa : Hid (Glob wa) := HG.out.below (HBW.out.1.trans (hba.mono HBW.out.2))
      have ne0 : lb ≠ N4 := by omega
      have ne1 : lb ≠ N9 := by omega
      have ne2 : lb ≠ zb := by omega
      rw [← hwa]
      try rw [← e9]
      clear hwa e9 hbn K0 K1 own p4 hb lBr b9 c0 c1 c2 c3 c4 c5 c6 c7 c8 c9 c10 c11 llb hbz
      refine wp_region_Z (fun w' => Rd4 w' N4 4 fi ∧ Rd4 w' N9 0 a ∧ Rd4 w' zb (zo + j * 12 + 8) d) 99 (by kernel_rfl) ?_
      obtain ⟨wD, hD⟩ : ∃ z : World, z = wa.drew := ⟨_, rfl⟩
      rw [← hD]
      have lowD : Below wa.heap.size wa wD := by rw [hD]; exact (Below.refl _ _).drew
      clear hD
      have HS0 : Rd4 wD N4 4 fi ∧ Rd4 wD N9 0 a ∧ Rd4 wD zb (zo + j * 12 + 8) d := ⟨G0.below lowD gl0, G1.below lowD gl1, G2.below lowD gl2⟩
      refine wpZ_take (i := 0) (v := .slice (some ⟨lb, 0, none⟩) L.length cap) 31 rfl rfl (by kernel_rfl) (by kernel_rfl) (by kernel_rfl) (Or.inr (by decide)) (fun _ _ _ h => h) (Or.inl ⟨by rfl, fun w hSw => by go_simp⟩) HS0 ?_
      simp only [Act.put, List.setIfInBounds_toArray]
      try dsimp only [List.set_cons_zero, List.set_cons_succ]
      refine wpZ_take (i := 1) (v := .int .i64 si) 32 rfl rfl (by kernel_rfl) (by kernel_rfl) (by kernel_rfl) (Or.inr (by decide)) (fun _ _ _ h => h) (Or.inl ⟨by rfl, fun w hSw => by go_simp⟩) HS0 ?_
      simp only [Act.put, List.setIfInBounds_toArray]
      try dsimp only [List.set_cons_zero, List.set_cons_succ]
      refine wpZ_take (i := 2) (v := .pointer (some ⟨N4, 4, none⟩)) 33 rfl rfl (by kernel_rfl) (by kernel_rfl) (by kernel_rfl) (Or.inr (by decide)) (fun _ _ _ h => h) (Or.inl ⟨by rfl, fun w hSw => by go_simp⟩) HS0 ?_
      simp only [Act.put, List.setIfInBounds_toArray]
      try dsimp only [List.set_cons_zero, List.set_cons_succ]
      refine wpZ_take (i := 3) (v := .agg #[.int .u64 ((limb 0 (fi) : Nat) : Int), .int .u64 ((limb 1 (fi) : Nat) : Int), .int .u64 ((limb 2 (fi) : Nat) : Int), .int .u64 ((limb 3 (fi) : Nat) : Int)]) 34 rfl rfl (by kernel_rfl) (by kernel_rfl) (by kernel_rfl) (Or.inr (by decide)) (fun _ _ _ h => h) (Or.inl ⟨by rfl, fun w hSw => by (obtain ⟨q0, q1, q2, q3⟩ : w.cell? ⟨N4, 4, none⟩ = _ ∧ w.cell? ⟨N4, 5, none⟩ = _ ∧ w.cell? ⟨N4, 6, none⟩ = _ ∧ w.cell? ⟨N4, 7, none⟩ = _ := hSw.1; clear hSw; go_simp)⟩) HS0 ?_
      simp only [Act.put, List.setIfInBounds_toArray]
      try dsimp only [List.set_cons_zero, List.set_cons_succ]
      refine wpZ_take (i := 4) (v := .int .i64 si) 35 rfl rfl (by kernel_rfl) (by kernel_rfl) (by kernel_rfl) (Or.inr (by decide)) (fun _ _ _ h => h) (Or.inl ⟨by rfl, fun w hSw => by go_simp⟩) HS0 ?_
      simp only [Act.put, List.setIfInBounds_toArray]
      try dsimp only [List.set_cons_zero, List.set_cons_succ]
      refine wpZ_take (i := 5) (v := .pointer (some ⟨N9, 0, none⟩)) 36 rfl rfl (by kernel_rfl) (by kernel_rfl) (by kernel_rfl) (Or.inr (by decide)) (fun _ _ _ h => h) (Or.inl ⟨by rfl, fun w hSw => by go_simp⟩) HS0 ?_
      simp only [Act.put, List.setIfInBounds_toArray]
      try dsimp only [List.set_cons_zero, List.set_cons_succ]
      refine wpZ_take (i := 6) (v := .agg #[.int .u64 ((limb 0 (a) : Nat) : Int), .int .u64 ((limb 1 (a) : Nat) : Int), .int .u64 ((limb 2 (a) : Nat) : Int), .int .u64 ((limb 3 (a) : Nat) : Int)]) 37 rfl rfl (by kernel_rfl) (by kernel_rfl) (by kernel_rfl) (Or.inr (by decide)) (fun _ _ _ h => h) (Or.inl ⟨by rfl, fun w hSw => by (obtain ⟨q0, q1, q2, q3⟩ : w.cell? ⟨N9, 0, none⟩ = _ ∧ w.cell? ⟨N9, 1, none⟩ = _ ∧ w.cell? ⟨N9, 2, none⟩ = _ ∧ w.cell? ⟨N9, 3, none⟩ = _ := hSw.2.1; clear hSw; go_simp)⟩) HS0 ?_
      simp only [Act.put, List.setIfInBounds_toArray]
      try dsimp only [List.set_cons_zero, List.set_cons_succ]
      refine wpZ_take (i := 7) (v := .slice (some ⟨zb, zo, none⟩) m cz) 38 rfl rfl (by kernel_rfl) (by kernel_rfl) (by kernel_rfl) (Or.inr (by decide)) (fun _ _ _ h => h) (Or.inl ⟨by rfl, fun w hSw => by go_simp⟩) HS0 ?_
      simp only [Act.put, List.setIfInBounds_toArray]
      try dsimp only [List.set_cons_zero, List.set_cons_succ]
      refine wpZ_take (i := 8) (v := .int .i64 (j : Int)) 39 rfl rfl (by kernel_rfl) (by kernel_rfl) (by kernel_rfl) (Or.inr (by decide)) (fun _ _ _ h => h) (Or.inl ⟨by rfl, fun w hSw => by go_simp⟩) HS0 ?_
      simp only [Act.put, List.setIfInBounds_toArray]
      try dsimp only [List.set_cons_zero, List.set_cons_succ]
      refine wpZ_take (i := 9) (v := .pointer (some ⟨zb, zo + j * 12, none⟩)) 40 rfl rfl (by kernel_rfl) (by kernel_rfl) (by kernel_rfl) (Or.inr (by decide)) (fun _ _ _ h => h) (Or.inl ⟨by rfl, fun w hSw => by go_simp⟩) HS0 ?_
      simp only [Act.put, List.setIfInBounds_toArray]
      try dsimp only [List.set_cons_zero, List.set_cons_succ]
      refine wpZ_take (i := 10) (v := .pointer (some ⟨zb, zo + j * 12 + 8, none⟩)) 41 rfl rfl (by kernel_rfl) (by kernel_rfl) (by kernel_rfl) (Or.inr (by decide)) (fun _ _ _ h => h) (Or.inl ⟨by rfl, fun w hSw => by go_simp⟩) HS0 ?_
      simp only [Act.put, List.setIfInBounds_toArray]
      try dsimp only [List.set_cons_zero, List.set_cons_succ]
      refine wpZ_take (i := 11) (v := .agg #[.int .u64 ((limb 0 (d) : Nat) : Int), .int .u64 ((limb 1 (d) : Nat) : Int), .int .u64 ((limb 2 (d) : Nat) : Int), .int .u64 ((limb 3 (d) : Nat) : Int)]) 42 rfl rfl (by kernel_rfl) (by kernel_rfl) (by kernel_rfl) (Or.inr (by decide)) (fun _ _ _ h => h) (Or.inl ⟨by rfl, fun w hSw => by (obtain ⟨q0, q1, q2, q3⟩ : w.cell? ⟨zb, zo + j * 12 + 8, none⟩ = _ ∧ w.cell? ⟨zb, zo + j * 12 + 8 + 1, none⟩ = _ ∧ w.cell? ⟨zb, zo + j * 12 + 8 + 2, none⟩ = _ ∧ w.cell? ⟨zb, zo + j * 12 + 8 + 3, none⟩ = _ := hSw.2.2; clear hSw; go_simp)⟩) HS0 ?_
      simp only [Act.put, List.setIfInBounds_toArray]
      try dsimp only [List.set_cons_zero, List.set_cons_succ]
      refine wpZ_one (i := 12) (by kernel_rfl) rfl (fun K hK => ?_)
      go_simp
      refine (HSJ.out wD (HGa.out.below lowD)).mono ?_
      rintro e wE1 ⟨rfl, hbx1⟩
      have lowwE1 := bStep lowD hbx1
      have SwE1 : Rd4 wE1 N4 4 fi ∧ Rd4 wE1 N9 0 a ∧ Rd4 wE1 zb (zo + j * 12 + 8) d := ⟨G0.below lowwE1 gl0, G1.below lowwE1 gl1, G2.below lowwE1 gl2⟩
      go_wp2_with fail
      refine hK.out _ _ (fun _ => SwE1) ?_
      clear hK K hbx1
      refine wpZ_one (i := 13) (by kernel_rfl) rfl (fun K hK => ?_)
      go_simp
      refine (HMJ.out wE1 (HGa.out.below lowwE1)).mono ?_
      rintro e wE2 ⟨rfl, hbx2⟩
      have lowwE2 := bStep lowwE1 hbx2
      have SwE2 : Rd4 wE2 N4 4 fi ∧ Rd4 wE2 N9 0 a ∧ Rd4 wE2 zb (zo + j * 12 + 8) d := ⟨G0.below lowwE2 gl0, G1.below lowwE2 gl1, G2.below lowwE2 gl2⟩
      go_wp2_with fail
      refine hK.out _ _ (fun _ => SwE2) ?_
      clear hK K hbx2
      refine wpZ_one (i := 14) (by kernel_rfl) rfl (fun K hK => ?_)
      go_simp
      have ownF := own5.below lowwE2
      obtain ⟨wG, hwG⟩ : ∃ z : World, z = wE2.alloc (.cells #[.int .u64 ((limb 0 y : Nat) : Int), .int .u64 ((limb 1 y : Nat) : Int), .int .u64 ((limb 2 y : Nat) : Int), .int .u64 ((limb 3 y : Nat) : Int)] 24) := ⟨_, rfl⟩
      obtain ⟨NF, eF⟩ : ∃ z, z = wE2.heap.size := ⟨_, rfl⟩
      have bF : Blk wG 24 NF (fun i => limb i y) := by rw [hwG]; exact Blk.newAt _ _ _ (fun i => limb i y) eF
      have hbG : Below wE2.heap.size wE2 wG := by rw [hwG]; exact bAlloc (Below.refl _ _) _
      have lowG := bStep lowwE2 hbG
      have ownG := ownF.below hbG
      have SG : Rd4 wG N4 4 fi ∧ Rd4 wG N9 0 a ∧ Rd4 wG zb (zo + j * 12 + 8) d := ⟨G0.below lowG gl0, G1.below lowG gl1, G2.below lowG gl2⟩
      rw [← hwG, ← eF]
      refine hK.out _ _ (fun _ => SG) ?_
      clear hK K hwG eF hbG ownF
      have cF := bF.cell
      have lBG : BZ ≤ wG.heap.size := Nat.le_trans lBa lowG.size
      have lG0 : N4 < wG.heap.size := Nat.lt_of_lt_of_le gl0 lowG.size
      have lG1 : N9 < wG.heap.size := Nat.lt_of_lt_of_le gl1 lowG.size
      have lG2 : zb < wG.heap.size := Nat.lt_of_lt_of_le gl2 lowG.size
      refine wpZ_one (i := 15) (by kernel_rfl) rfl (fun K hK => ?_)
      rw [if_pos (show Region.wanted _ _ = true from rfl)]
      refine wp_append_keep wG _ _ 32 rfl BZ 24 i0 (.agg #[.int .u64 0, .int .u64 0, .int .u64 0, .int .u64 0]) 4 32 Tryd.underlying32 HI.out HZ.out.1 HZ.out.2.1 HZ.out.2.2 rfl (by decide) _ L.length (els (fun i => L.getD i 0) L.length) rfl ownG ⟨NF, 0, none⟩ 1 1 [.int .u64 ((limb 0 y : Nat) : Int), .int .u64 ((limb 1 y : Nat) : Int), .int .u64 ((limb 2 y : Nat) : Int), .int .u64 ((limb 3 y : Nat) : Int)] rfl rfl ?c1 ?c2 ?c3 ?c4 lBG ?_
      case c1 =>
        intro q u hu
        have hadd : (⟨NF, 0, none⟩ : Addr).add q = ⟨NF, q, none⟩ := by unfold Addr.add; split <;> simp_all
        rw [hadd]
        match q, hu with
        | 0, hu => simp at hu; subst hu; exact cF 0 (by decide)
        | 1, hu => simp at hu; subst hu; exact cF 1 (by decide)
        | 2, hu => simp at hu; subst hu; exact cF 2 (by decide)
        | 3, hu => simp at hu; subst hu; exact cF 3 (by decide)
        | q + 4, hu => simp at hu
      case c2 => first | exact ⟨rfl, rfl, rfl, rfl⟩ | (intro u hu; simp at hu; rcases hu with rfl | rfl | rfl | rfl <;> rfl)
      case c3 => unfold maxLen; omega
      case c4 => omega
      intro v6 wH own6' hgr6 hkp
      have own6 := OwnL.push own6'
      have S6 : Rd4 wH N4 4 fi ∧ Rd4 wH N9 0 a ∧ Rd4 wH zb (zo + j * 12 + 8) d := ⟨SG.1.same (hgr6.block N4 lG0 (fun h => (ne0) (Option.some.inj h).symm)), SG.2.1.same (hgr6.block N9 lG1 (fun h => (ne1) (Option.some.inj h).symm)), SG.2.2.same (hgr6.block zb lG2 (fun h => (ne2) (Option.some.inj h).symm))⟩
      have hbGH : Below BZ wG wH := (Below.refl BZ wG).grown hgr6 lBG (fun q hq => own_block_geE ownG hq)
      have hbG2 : Below BZ w2 wG := hba.trans (lowG.mono lBa)
      have hbH : Below BZ w2 wH := hbG2.trans hbGH
      have lBH : BZ ≤ wH.heap.size := Nat.le_trans lBG hbGH.size
      have HOH : Hid (OwnL wH BZ v6 (zL jp (j + 1))) := by show OwnL _ _ _ _; rw [HL.out.2]; exact own6
      refine hK.out _ _ (fun _ => S6) ?_
      clear hK K own6' hgr6 hkp own6 ownG SG hbGH own5 hba hbG2
      refine wpZ_take (i := 16) (v := v6) 7 rfl rfl (by kernel_rfl) (by kernel_rfl) (by kernel_rfl) (Or.inr (by decide)) (fun _ _ _ h => h) (Or.inl ⟨by rfl, fun w hSw => by go_simp⟩) S6 ?_
      simp only [Act.put, List.setIfInBounds_toArray]
      try dsimp only [List.set_cons_zero, List.set_cons_succ]
      refine wpZ_done (by kernel_rfl) ?_ _
      go_wp2
      go_roundw
      case measure => simp [intOf]; omega
      case rel => exact ⟨j + 1, by go_num, by omega, HOH.out, hbH, lBH⟩
    · have hji : ¬ (j : Int) < (n : Int) := by omega
      obtain rfl : n = j := by omega
      have hmw : IntKind.i64.wrap ((m : Int) - 1) = (n : Int) := by rw [show (m : Int) - 1 = (n : Int) by have := HN.out.1; omega]; exact wrap_i64_nat n (by omega)
      have hnm : (n : Int) < (m : Int) := by have := HN.out.1; omega
      have hnm' : n < m := by have := HN.out.1; omega
      obtain ⟨L, eL⟩ : ∃ L, L = zL jp n := ⟨_, rfl⟩
      have HL : Hid (L.length = n + 1 ∧ L = zL jp (m - 1)) := by rw [eL]; exact ⟨zL_len _ _, by rw [HN.out.2]⟩
      rw [← eL] at own
      clear eL
      have hL9 : L.length ≤ 1001 := by have := HL.out.1; omega
      obtain ⟨hA4, _, _⟩ := hcl.2 n hnm'
      have HEN2 : Hid (en = At n) := by show _ = _; rw [HEN.out, ← HN.out.2]
      rw [← HEN2.out] at hA4
      have c0 : wr.cell? ⟨zb, zo + n * 12, none⟩ = some (.int .u64 ((limb 0 en : Nat) : Int)) := hA4 0 (by decide)
      have c1 : wr.cell? ⟨zb, zo + n * 12 + 1, none⟩ = some (.int .u64 ((limb 1 en : Nat) : Int)) := hA4 1 (by decide)
      have c2 : wr.cell? ⟨zb, zo + n * 12 + 2, none⟩ = some (.int .u64 ((limb 2 en : Nat) : Int)) := hA4 2 (by decide)
      have c3 : wr.cell? ⟨zb, zo + n * 12 + 3, none⟩ = some (.int .u64 ((limb 3 en : Nat) : Int)) := hA4 3 (by decide)
      have K0 : Rd4 wr N4 8 la := p4.el HSV.out.2.2.2.1
      clear hA4 hcl
      rcases own.2 with ⟨_, h0⟩ | ⟨lb, cap, cur, rfl, hbz, hgz, hcp, hcm, hcs, htk⟩
      · exact absurd h0 (by have := HL.out.1; omega)
      have llb : lb < wr.heap.size := (Array.getElem?_eq_some_iff.1 hgz).1
      clear hgz hcs htk
      go_upto_region 8 with fail
      obtain ⟨wa, hwa⟩ : ∃ z : World, z = wr.alloc (.cells #[.int .u64 ((limb 0 (en) : Nat) : Int), .int .u64 ((limb 1 (en) : Nat) : Int), .int .u64 ((limb 2 (en) : Nat) : Int), .int .u64 ((limb 3 (en) : Nat) : Int)] 24) := ⟨_, rfl⟩
      obtain ⟨N10, e10⟩ : ∃ z, z = wr.heap.size := ⟨_, rfl⟩
      have b10 : Blk wa 24 N10 (fun i => limb i en) := by rw [hwa]; exact Blk.newAt _ _ _ (fun i => limb i en) e10
      have hbn : Below wr.heap.size wr wa := by rw [hwa]; exact bAlloc (Below.refl _ _) _
      have G0 := K0.below hbn p4.lt
      have G1 : Rd4 wa N10 0 en := by have c := b10.cell; exact ⟨c 0 (by decide), c 1 (by decide), c 2 (by decide), c 3 (by decide)⟩
      have own5 := own.below hbn
      have gl0 : N4 < wa.heap.size := Nat.lt_of_lt_of_le p4.lt hbn.size
      have gl1 : N10 < wa.heap.size := b10.lt
      have hba : Below BZ w2 wa := hb.trans (hbn.mono lBr)
      have lBa : BZ ≤ wa.heap.size := Nat.le_trans lBr hbn.size
      have HGa : Hid (Glob wa) := HG.out.below (HBW.out.1.trans (hba.mono HBW.out.2))
      have ne0 : lb ≠ N4 := by omega
      have ne1 : lb ≠ N10 := by omega
      rw [← hwa]
      try rw [← e10]
      clear hwa e10 hbn K0 own p4 hb lBr b10 c0 c1 c2 c3 llb hbz
      refine wp_region_Z (fun w' => Rd4 w' N4 8 la ∧ Rd4 w' N10 0 en) 99 (by kernel_rfl) ?_
      obtain ⟨wD, hD⟩ : ∃ z : World, z = wa.drew := ⟨_, rfl⟩
      rw [← hD]
      have lowD : Below wa.heap.size wa wD := by rw [hD]; exact (Below.refl _ _).drew
      clear hD
      have HS0 : Rd4 wD N4 8 la ∧ Rd4 wD N10 0 en := ⟨G0.below lowD gl0, G1.below lowD gl1⟩
      refine wpZ_take (i := 0) (v := .slice (some ⟨lb, 0, none⟩) L.length cap) 55 rfl rfl (by kernel_rfl) (by kernel_rfl) (by kernel_rfl) (Or.inr (by decide)) (fun _ _ _ h => h) (Or.inl ⟨by rfl, fun w hSw => by go_simp⟩) HS0 ?_
      simp only [Act.put, List.setIfInBounds_toArray]
      try dsimp only [List.set_cons_zero, List.set_cons_succ]
      refine wpZ_take (i := 1) (v := .int .i64 si) 56 rfl rfl (by kernel_rfl) (by kernel_rfl) (by kernel_rfl) (Or.inr (by decide)) (fun _ _ _ h => h) (Or.inl ⟨by rfl, fun w hSw => by go_simp⟩) HS0 ?_
      simp only [Act.put, List.setIfInBounds_toArray]
      try dsimp only [List.set_cons_zero, List.set_cons_succ]
      refine wpZ_take (i := 2) (v := .pointer (some ⟨N4, 8, none⟩)) 57 rfl rfl (by kernel_rfl) (by kernel_rfl) (by kernel_rfl) (Or.inr (by decide)) (fun _ _ _ h => h) (Or.inl ⟨by rfl, fun w hSw => by go_simp⟩) HS0 ?_
      simp only [Act.put, List.setIfInBounds_toArray]
      try dsimp only [List.set_cons_zero, List.set_cons_succ]
      refine wpZ_take (i := 3) (v := .agg #[.int .u64 ((limb 0 (la) : Nat) : Int), .int .u64 ((limb 1 (la) : Nat) : Int), .int .u64 ((limb 2 (la) : Nat) : Int), .int .u64 ((limb 3 (la) : Nat) : Int)]) 58 rfl rfl (by kernel_rfl) (by kernel_rfl) (by kernel_rfl) (Or.inr (by decide)) (fun _ _ _ h => h) (Or.inl ⟨by rfl, fun w hSw => by (obtain ⟨q0, q1, q2, q3⟩ : w.cell? ⟨N4, 8, none⟩ = _ ∧ w.cell? ⟨N4, 9, none⟩ = _ ∧ w.cell? ⟨N4, 10, none⟩ = _ ∧ w.cell? ⟨N4, 11, none⟩ = _ := hSw.1; clear hSw; go_simp)⟩) HS0 ?_
      simp only [Act.put, List.setIfInBounds_toArray]
      try dsimp only [List.set_cons_zero, List.set_cons_succ]
      refine wpZ_take (i := 4) (v := .int .i64 si) 59 rfl rfl (by kernel_rfl) (by kernel_rfl) (by kernel_rfl) (Or.inr (by decide)) (fun _ _ _ h => h) (Or.inl ⟨by rfl, fun w hSw => by go_simp⟩) HS0 ?_
      simp only [Act.put, List.setIfInBounds_toArray]
      try dsimp only [List.set_cons_zero, List.set_cons_succ]
      refine wpZ_take (i := 5) (v := .int .i64 si) 60 rfl rfl (by kernel_rfl) (by kernel_rfl) (by kernel_rfl) (Or.inr (by decide)) (fun _ _ _ h => h) (Or.inl ⟨by rfl, fun w hSw => by go_simp⟩) HS0 ?_
      simp only [Act.put, List.setIfInBounds_toArray]
      try dsimp only [List.set_cons_zero, List.set_cons_succ]
      refine wpZ_take (i := 6) (v := .agg #[.int .u64 ((limb 0 (en) : Nat) : Int), .int .u64 ((limb 1 (en) : Nat) : Int), .int .u64 ((limb 2 (en) : Nat) : Int), .int .u64 ((limb 3 (en) : Nat) : Int)]) 61 rfl rfl (by kernel_rfl) (by kernel_rfl) (by kernel_rfl) (Or.inr (by decide)) (fun _ _ _ h => h) (Or.inl ⟨by rfl, fun w hSw => by (obtain ⟨q0, q1, q2, q3⟩ : w.cell? ⟨N10, 0, none⟩ = _ ∧ w.cell? ⟨N10, 1, none⟩ = _ ∧ w.cell? ⟨N10, 2, none⟩ = _ ∧ w.cell? ⟨N10, 3, none⟩ = _ := hSw.2; clear hSw; go_simp)⟩) HS0 ?_
      simp only [Act.put, List.setIfInBounds_toArray]
      try dsimp only [List.set_cons_zero, List.set_cons_succ]
      refine wpZ_take (i := 7) (v := .agg #[.int .u64 ((limb 0 (en) : Nat) : Int), .int .u64 ((limb 1 (en) : Nat) : Int), .int .u64 ((limb 2 (en) : Nat) : Int), .int .u64 ((limb 3 (en) : Nat) : Int)]) 62 rfl rfl (by kernel_rfl) (by kernel_rfl) (by kernel_rfl) (Or.inr (by decide)) (fun _ _ _ h => h) (Or.inl ⟨by rfl, fun w hSw => by (obtain ⟨q0, q1, q2, q3⟩ : w.cell? ⟨N10, 0, none⟩ = _ ∧ w.cell? ⟨N10, 1, none⟩ = _ ∧ w.cell? ⟨N10, 2, none⟩ = _ ∧ w.cell? ⟨N10, 3, none⟩ = _ := hSw.2; clear hSw; go_simp)⟩) HS0 ?_
      simp only [Act.put, List.setIfInBounds_toArray]
      try dsimp only [List.set_cons_zero, List.set_cons_succ]
      refine wpZ_take (i := 9) (v := .agg #[.int .u64 ((limb 0 (en) : Nat) : Int), .int .u64 ((limb 1 (en) : Nat) : Int), .int .u64 ((limb 2 (en) : Nat) : Int), .int .u64 ((limb 3 (en) : Nat) : Int)]) 64 rfl rfl (by kernel_rfl) (by kernel_rfl) (by kernel_rfl) (Or.inr (by decide)) (fun _ _ _ h => h) (Or.inl ⟨by rfl, fun w hSw => by (obtain ⟨q0, q1, q2, q3⟩ : w.cell? ⟨N10, 0, none⟩ = _ ∧ w.cell? ⟨N10, 1, none⟩ = _ ∧ w.cell? ⟨N10, 2, none⟩ = _ ∧ w.cell? ⟨N10, 3, none⟩ = _ := hSw.2; clear hSw; go_simp)⟩) HS0 ?_
      simp only [Act.put, List.setIfInBounds_toArray]
      try dsimp only [List.set_cons_zero, List.set_cons_succ]
      refine wpZ_one (i := 8) (by kernel_rfl) rfl (fun K hK => ?_)
      go_simp
      refine (HE1.out wD (HGa.out.below lowD)).mono ?_
      rintro e wE1 ⟨rfl, hbx1⟩
      have lowwE1 := bStep lowD hbx1
      have SwE1 : Rd4 wE1 N4 8 la ∧ Rd4 wE1 N10 0 en := ⟨G0.below lowwE1 gl0, G1.below lowwE1 gl1⟩
      go_wp2_with fail
      refine hK.out _ _ (fun _ => SwE1) ?_
      clear hK K hbx1
      refine wpZ_one (i := 10) (by kernel_rfl) rfl (fun K hK => ?_)
      go_simp
      refine (HE2.out wE1 (HGa.out.below lowwE1)).mono ?_
      rintro e wE2 ⟨rfl, hbx2⟩
      have lowwE2 := bStep lowwE1 hbx2
      have SwE2 : Rd4 wE2 N4 8 la ∧ Rd4 wE2 N10 0 en := ⟨G0.below lowwE2 gl0, G1.below lowwE2 gl1⟩
      go_wp2_with fail
      refine hK.out _ _ (fun _ => SwE2) ?_
      clear hK K hbx2
      refine wpZ_one (i := 11) (by kernel_rfl) rfl (fun K hK => ?_)
      go_simp
      refine (HE3.out wE2 (HGa.out.below lowwE2)).mono ?_
      rintro e wE3 ⟨rfl, hbx3⟩
      have lowwE3 := bStep lowwE2 hbx3
      have SwE3 : Rd4 wE3 N4 8 la ∧ Rd4 wE3 N10 0 en := ⟨G0.below lowwE3 gl0, G1.below lowwE3 gl1⟩
      go_wp2_with fail
      refine hK.out _ _ (fun _ => SwE3) ?_
      clear hK K hbx3
      refine wpZ_one (i := 12) (by kernel_rfl) rfl (fun K hK => ?_)
      go_simp
      have ownF := own5.below lowwE3
      obtain ⟨wG, hwG⟩ : ∃ z : World, z = wE3.alloc (.cells #[.int .u64 ((limb 0 eq3 : Nat) : Int), .int .u64 ((limb 1 eq3 : Nat) : Int), .int .u64 ((limb 2 eq3 : Nat) : Int), .int .u64 ((limb 3 eq3 : Nat) : Int)] 24) := ⟨_, rfl⟩
      obtain ⟨NF, eF⟩ : ∃ z, z = wE3.heap.size := ⟨_, rfl⟩
      have bF : Blk wG 24 NF (fun i => limb i eq3) := by rw [hwG]; exact Blk.newAt _ _ _ (fun i => limb i eq3) eF
      have hbG : Below wE3.heap.size wE3 wG := by rw [hwG]; exact bAlloc (Below.refl _ _) _
      have lowG := bStep lowwE3 hbG
      have ownG := ownF.below hbG
      have SG : Rd4 wG N4 8 la ∧ Rd4 wG N10 0 en := ⟨G0.below lowG gl0, G1.below lowG gl1⟩
      rw [← hwG, ← eF]
      refine hK.out _ _ (fun _ => SG) ?_
      clear hK K hwG eF hbG ownF
      have cF := bF.cell
      have lBG : BZ ≤ wG.heap.size := Nat.le_trans lBa lowG.size
      have lG0 : N4 < wG.heap.size := Nat.lt_of_lt_of_le gl0 lowG.size
      have lG1 : N10 < wG.heap.size := Nat.lt_of_lt_of_le gl1 lowG.size
      refine wpZ_one (i := 13) (by kernel_rfl) rfl (fun K hK => ?_)
      rw [if_pos (show Region.wanted _ _ = true from rfl)]
      refine wp_append_keep wG _ _ 32 rfl BZ 24 i0 (.agg #[.int .u64 0, .int .u64 0, .int .u64 0, .int .u64 0]) 4 32 Tryd.underlying32 HI.out HZ.out.1 HZ.out.2.1 HZ.out.2.2 rfl (by decide) _ L.length (els (fun i => L.getD i 0) L.length) rfl ownG ⟨NF, 0, none⟩ 1 1 [.int .u64 ((limb 0 eq3 : Nat) : Int), .int .u64 ((limb 1 eq3 : Nat) : Int), .int .u64 ((limb 2 eq3 : Nat) : Int), .int .u64 ((limb 3 eq3 : Nat) : Int)] rfl rfl ?c1 ?c2 ?c3 ?c4 lBG ?_
      case c1 =>
        intro q u hu
        have hadd : (⟨NF, 0, none⟩ : Addr).add q = ⟨NF, q, none⟩ := by unfold Addr.add; split <;> simp_all
        rw [hadd]
        match q, hu with
        | 0, hu => simp at hu; subst hu; exact cF 0 (by decide)
        | 1, hu => simp at hu; subst hu; exact cF 1 (by decide)
        | 2, hu => simp at hu; subst hu; exact cF 2 (by decide)
        | 3, hu => simp at hu; subst hu; exact cF 3 (by decide)
        | q + 4, hu => simp at hu
      case c2 => first | exact ⟨rfl, rfl, rfl, rfl⟩ | (intro u hu; simp at hu; rcases hu with rfl | rfl | rfl | rfl <;> rfl)
      case c3 => unfold maxLen; omega
      case c4 => omega
      intro v6 wH own6' hgr6 hkp
      have own6 := OwnL.push own6'
      have S6 : Rd4 wH N4 8 la ∧ Rd4 wH N10 0 en := ⟨SG.1.same (hgr6.block N4 lG0 (fun h => (ne0) (Option.some.inj h).symm)), SG.2.same (hgr6.block N10 lG1 (fun h => (ne1) (Option.some.inj h).symm))⟩
      have hbGH : Below BZ wG wH := (Below.refl BZ wG).grown hgr6 lBG (fun q hq => own_block_geE ownG hq)
      have hbG2 : Below BZ w2 wG := hba.trans (lowG.mono lBa)
      have hbH : Below w.heap.size w wH := HBW.out.1.trans ((hbG2.trans hbGH).mono HBW.out.2)
      have HOH : Hid (OwnL wH w.heap.size v6 (zL jp (m - 1) ++ [eq3])) := by
        have h := ownL_base own6 HBW.out.2
        rw [HL.out.2] at h
        exact h
      refine hK.out _ _ (fun _ => S6) ?_
      clear hK K own6' hgr6 hkp own6 ownG SG hbGH own5 hba hbG2
      refine wpZ_take (i := 14) (v := v6) 6 rfl rfl (by kernel_rfl) (by kernel_rfl) (by kernel_rfl) (Or.inr (by decide)) (fun _ _ _ h => h) (Or.inl ⟨by rfl, fun w hSw => by go_simp⟩) S6 ?_
      simp only [Act.put, List.setIfInBounds_toArray]
      try dsimp only [List.set_cons_zero, List.set_cons_succ]
      refine wpZ_done (by kernel_rfl) ?_ _
      go_wp2
      refine bodyPost_ret (v := v6) (by simp [results, Tryd.results28, go_sem]) rfl ⟨⟨v6, rfl, HOH.out⟩, hbH⟩
end Go.Proofs.YtoipnjfajandmaaDoor
