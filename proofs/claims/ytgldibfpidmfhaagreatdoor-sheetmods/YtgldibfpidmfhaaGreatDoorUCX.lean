/- Lists of rows of cells, whatever they are: their cells, and append. No walk. -/
import Derived.Test.YtgldibfpidmfhaaGreatDoorUBM
import Derived.OwnWalk
import Derived.Laws.AppendOwnNone
import Derived.Laws.AppendOwn
import Derived.Test.YtgldibfpidmfhaaGreatDoorUEB
namespace Go.Proofs.YtgldibfpidmfhaaGreatDoor
open Go.RowKit
/-- The cells of a list of n rows of s cells. -/
def rwl (s : Nat) (F : Nat → Nat → Value) (n : Nat) : List Value := (List.range (n * s)).map (fun t => F (t / s) (t % s))
section
variable {s n m : Nat} {F G : Nat → Nat → Value}
theorem rwl_len (s : Nat) (F : Nat → Nat → Value) (n : Nat) : (rwl s F n).length = n * s := by simp [rwl]
theorem row_div {i j s : Nat} (hj : j < s) : (i * s + j) / s = i := by rw [Nat.mul_comm, Nat.mul_add_div (by omega), Nat.div_eq_of_lt hj, Nat.add_zero]
theorem row_mod {i j s : Nat} (hj : j < s) : (i * s + j) % s = j := by rw [Nat.mul_comm, Nat.mul_add_mod, Nat.mod_eq_of_lt hj]
theorem rwl_at (t : Nat) (ht : t < n * s) : (rwl s F n)[t]? = some (F (t / s) (t % s)) := by
  unfold rwl
  rw [List.getElem?_map, List.getElem?_range ht]
  rfl
theorem rwl_get (i j : Nat) (hi : i < n) (hj : j < s) : (rwl s F n)[i * s + j]? = some (F i j) := by
  rw [rwl_at _ (row_lt hi hj), row_div hj, row_mod hj]
theorem rwl_congr (h : ∀ i, i < n → ∀ j, j < s → F i j = G i j) : rwl s F n = rwl s G n := by
  unfold rwl
  apply List.map_congr_left
  intro t ht
  have h1 : t < n * s := by simpa using ht
  have h0 : 0 < s := by
    rcases Nat.eq_zero_or_pos s with h | h
    · subst h; omega
    · exact h
  exact h _ ((Nat.div_lt_iff_lt_mul h0).mpr h1) _ (Nat.mod_lt _ h0)
theorem rwl_add (h0 : 0 < s) : rwl s F n ++ rwl s G m = rwl s (fun i => if i < n then F i else G (i - n)) (n + m) := by
  apply List.ext_getElem?
  intro t
  by_cases h1 : t < n * s
  · rw [List.getElem?_append_left (by rw [rwl_len]; exact h1), rwl_at t h1, rwl_at t (by rw [Nat.add_mul]; omega)]
    rw [if_pos ((Nat.div_lt_iff_lt_mul h0).mpr h1)]
  · rw [List.getElem?_append_right (by rw [rwl_len]; omega), rwl_len]
    by_cases h2 : t < (n + m) * s
    · have h3 : n ≤ t / s := (Nat.le_div_iff_mul_le h0).mpr (by omega)
      rw [rwl_at _ (by rw [Nat.add_mul] at h2; omega), rwl_at t h2, if_neg (by omega)]
      rw [show t - n * s = t - s * n from by rw [Nat.mul_comm], Nat.sub_mul_div, Nat.sub_mul_mod (by rw [Nat.mul_comm]; omega)]
    · rw [List.getElem?_eq_none (by rw [rwl_len]; rw [Nat.add_mul] at h2; omega), List.getElem?_eq_none (by rw [rwl_len]; omega)]
theorem rwl_one (h : ∀ i, i < n → ∀ j, j < s → (F i j).oneCell' = true) : ∀ u ∈ rwl s F n, u.oneCell' = true := by
  intro u hu
  unfold rwl at hu
  obtain ⟨t, ht, rfl⟩ := List.mem_map.mp hu
  have h1 : t < n * s := by simpa using ht
  have h0 : 0 < s := by
    rcases Nat.eq_zero_or_pos s with h | h
    · subst h; omega
    · exact h
  exact h _ ((Nat.div_lt_iff_lt_mul h0).mpr h1) _ (Nat.mod_lt _ h0)
theorem rwl_cells {w : World} {a oa : Nat} (h0 : 0 < s) (hc : ∀ i, i < n → ∀ j, j < s → w.cell? ⟨a, oa + i * s + j, none⟩ = some (F i j)) (t : Nat) (u : Value) (ht : (rwl s F n)[t]? = some u) : w.cell? ((⟨a, oa, none⟩ : Addr).add t) = some u := by
  have htn : t < n * s := by
    rcases Nat.lt_or_ge t (n * s) with h | h
    · exact h
    · rw [List.getElem?_eq_none (by rw [rwl_len]; exact h)] at ht; cases ht
  rw [rwl_at t htn] at ht
  cases ht
  have hadd : (⟨a, oa, none⟩ : Addr).add t = ⟨a, oa + t / s * s + t % s, none⟩ := by
    have e2 : oa + t / s * s + t % s = oa + t := by rw [Nat.add_assoc, Nat.div_add_mod']
    rw [e2]; unfold Addr.add; split <;> simp_all
  rw [hadd]
  exact hc _ ((Nat.div_lt_iff_lt_mul h0).mpr htn) _ (Nat.mod_lt _ h0)
end
theorem own_new (w : World) (t : TypeId) (s : Nat) : (w.alloc (.cells #[] t)).ownsRow w.heap.size t s (.slice (some ⟨w.heap.size, 0, none⟩) 0 0) 0 [] :=
  ⟨by simp, Or.inr ⟨w.heap.size, 0, #[], rfl, Nat.le_refl _, (by show (w.heap.push _)[w.heap.size]? = _; simp), Nat.le_refl _, by decide, by simp, by simp⟩⟩
theorem own_nil (w : World) (base : Nat) (t : TypeId) (s : Nat) : w.ownsRow base t s (.slice none 0 0) 0 [] := ⟨by simp, Or.inl ⟨rfl, rfl⟩⟩
section
variable {w w' : World} {base m n s : Nat} {t : TypeId} {v : Value} {xs : List Value} {F : Nat → Nat → Value}
theorem own_ge (h : w.ownsRow base t s v n xs) {j : Nat} (hj : v.ownBlock = some j) : base ≤ j := by
  obtain ⟨_, h⟩ := h
  rcases h with ⟨rfl, _⟩ | ⟨g, c, cur, rfl, hb, _⟩
  · simp [Value.ownBlock] at hj
  · simp [Value.ownBlock] at hj; omega
theorem own_base (h : w.ownsRow m t s v n xs) (hm : base ≤ m) : w.ownsRow base t s v n xs := by
  refine ⟨h.1, ?_⟩
  rcases h.2 with hn | ⟨g, cap, cur, hL, hb, rest⟩
  · exact Or.inl hn
  · exact Or.inr ⟨g, cap, cur, hL, Nat.le_trans hm hb, rest⟩
theorem own_keep (h : w.ownsRow base t s v n xs) (hb : ∀ b, v.ownBlock = some b → w'.heap[b]? = w.heap[b]?) : w'.ownsRow base t s v n xs := by
  refine ⟨h.1, ?_⟩
  rcases h.2 with hn | ⟨g, cap, cur, hL, hbs, hg, rest⟩
  · exact Or.inl hn
  · refine Or.inr ⟨g, cap, cur, hL, hbs, ?_, rest⟩
    rw [hb g (by rw [hL]; rfl)]
    exact hg
theorem own_lt (h : w.ownsRow base t s v n xs) (b : Nat) (hb : v.ownBlock = some b) : base ≤ b ∧ b < w.heap.size := by
  rcases h.2 with ⟨hn, _⟩ | ⟨g, cap, cur, hL, hbs, hg, rest⟩
  · rw [hn] at hb; cases hb
  · rw [hL] at hb
    cases hb
    exact ⟨hbs, (Array.getElem?_eq_some_iff.1 hg).1⟩
theorem own_below (h : w.ownsRow base t s v n xs) (hb : Below w.heap.size w w') : w'.ownsRow base t s v n xs :=
  own_keep h (fun b hv => hb.block b (own_lt h b hv).2)
theorem own_shape (h : w.ownsRow base t s v n xs) : ∃ oa c, v = .slice oa n c ∧ n ≤ maxLen := by
  rcases h.2 with ⟨rfl, rfl⟩ | ⟨g, cap, cur, rfl, _, _, h1, h2, _⟩
  · exact ⟨none, 0, rfl, by decide⟩
  · exact ⟨_, _, rfl, Nat.le_trans h1 h2⟩
/-- A list of the call's own, as rows. -/
theorem own_Rs (h : w.ownsRow base t s v n (rwl s F n)) : Rs w v s n F := by
  obtain ⟨_, h⟩ := h
  rcases h with ⟨rfl, h0⟩ | ⟨g, c, cur, rfl, hb, hg, hc, hm, hs, ht⟩
  · exact Or.inl ⟨rfl, h0⟩
  · refine Or.inr ⟨g, 0, c, rfl, hc, hm, (Array.getElem?_eq_some_iff.1 hg).1, fun i hi j hj => ?_⟩
    have h1 : cur[i * s + j]? = (rwl s F n)[i * s + j]? := by rw [← ht, List.getElem?_take_of_lt (row_lt hi hj), Array.getElem?_toList]
    rw [rwl_get i j hi hj] at h1
    rw [Nat.zero_add]
    simp [World.cell?, hg, h1]
end
theorem append_sep {P : Program} {w : World} {base : Nat} {t ty e : TypeId} {i : TypeInfo} {z : Value} {size bytes : Nat} (ht : P.underlying t = some (.slice e)) (hi : P.info? e = some i) (hz : i.zero = some z)
    (hsize : i.size = size) (hby : i.bytes = bytes) (hzs : z.cells.size = size) (hsz : 0 < size) {v : Value} {n : Nat} {xs : List Value} (hown : w.ownsRow base e size v n xs)
    {a : Addr} {m c : Nat} {news : List Value} (hl : news.length = m * size) (hnews : ∀ j u, news[j]? = some u → w.cell? (a.add j) = some u) (h1 : ∀ u ∈ news, u.oneCell' = true)
    (h63 : n + m ≤ maxLen) (hbytes : (n + m) * bytes ≤ 140737488355328) (hbase : base ≤ w.heap.size) {v' : Value} {w' : World}
    (hr : (Builtin.append_ #[t, t] ty #[v, .slice (some a) m c]).run P w = .ok v' w') : v'.ownBlock = v.ownBlock ∨ v'.ownBlock = some w.heap.size := by
  obtain ⟨v1, w1, hr1, _, _, h4⟩ := run_append_own (P := P) w base t ty e i z size bytes ht hi hz hsize hby hzs hsz v n xs hown a m c news hl hnews h1 h63 hbytes hbase
  rw [hr] at hr1
  cases hr1
  subst hsize
  subst hby
  have hsmall : n + m ≤ 9223372036854775807 := by simp only [maxLen] at h63; omega
  rcases hown.2 with ⟨rfl, rfl⟩ | ⟨g, cap, cur, rfl, _, hg, _, _, hcs, _⟩
  · by_cases hm : m = 0
    · rw [h4.mpr ⟨rfl, hm⟩]
      exact Or.inl rfl
    · have h := run_append_nil (P := P) w t ty e i z ht hi hz a m c news hl hnews (by omega) (by omega) (by have hb := hbytes; simp only [Nat.zero_add] at hb; omega)
      rw [hr] at h
      cases h
      exact Or.inr rfl
  · by_cases hroom : n + m ≤ cap
    · have hfit : n * i.size + news.length ≤ cur.size := by rw [hl, hcs, ← Nat.add_mul]; exact Nat.mul_le_mul_right _ hroom
      have h := run_append_room (P := P) w t ty e i ht hi g n cap cur hg a m c news hl hnews h1 hroom hfit
      rw [hr] at h
      cases h
      exact Or.inl rfl
    · have holds : ∀ j u, xs[j]? = some u → w.cell? ((⟨g, 0, none⟩ : Addr).add j) = some u := hown.cells (g := g) rfl
      have h := run_append_grow (P := P) w t ty e i z ht hi hz ⟨g, 0, none⟩ n cap xs hown.1 holds a m c news hl hnews (by omega) (by omega) (growslice_fits (by omega) hbytes)
      rw [hr] at h
      cases h
      exact Or.inr rfl
/-- append of a list of rows to a list of one's own, as an operation: where it lies behind it too. -/
theorem wp_appR {P : Program} (w : World) {o : Oper} {a : Act} {K : Act → World → Prop} {Q : Exit → Act → World → Prop} (s x : Operand) (t : TypeId)
    (ho : o.op = .call { callee := .builtin .append, args := #[s, x], argTypes := #[t, t] })
    (base : Nat) (e : TypeId) (i : TypeInfo) (z : Value) (size bytes : Nat) (ht : P.underlying t = some (.slice e)) (hi : P.info? e = some i) (hz : i.zero = some z)
    (hsize : i.size = size) (hby : i.bytes = bytes) (hzs : z.cells.size = size) (hsz : 0 < size)
    (v : Value) (n : Nat) (F : Nat → Nat → Value) (hs : a.eval s = v) (hown : w.ownsRow base e size v n (rwl size F n))
    (m : Nat) (G : Nat → Nat → Value) (u : Value) (hx : a.eval x = u) (hu : Rs w u size m G) (h1 : ∀ i, i < m → ∀ j, j < size → (G i j).oneCell' = true)
    (h63 : n + m ≤ maxLen) (hbytes : (n + m) * bytes ≤ 140737488355328) (hbase : base ≤ w.heap.size)
    (h : ∀ v' w', w'.ownsRow base e size v' (n + m) (rwl size (fun i => if i < n then F i else G (i - n)) (n + m)) → w.grownBy w' v.ownBlock → (∀ b, v'.ownBlock = some b → v.ownBlock = some b ∨ w.heap.size ≤ b) → K (a.put o.dst v') w') : o.wp P a w K Q := by
  rcases hu with ⟨rfl, rfl⟩ | ⟨b, oo, c, rfl, h2, h3, h4, h5⟩
  · have hrun := run_append_owned_none (P := P) (w := w) base t o.type e i size ht hi v n (rwl size F n) hown
    have hk := h v w (by rw [← rwl_add hsz, show rwl size G 0 = [] by simp [rwl], List.append_nil]; exact hown) ⟨rfl, rfl, rfl, Nat.le_refl _, fun _ _ _ => rfl⟩ (fun b hb => Or.inl hb)
    unfold Oper.wp
    simp [execOp, ho, resolve, invoke, builtin, hs, hx, hrun, Result.andThen]
    exact hk
  · obtain ⟨v', w', hr, h6, h7, _⟩ := run_append_own (P := P) w base t o.type e i z size bytes ht hi hz hsize hby hzs hsz v n (rwl size F n) hown ⟨b, oo, none⟩ m c (rwl size G m) (rwl_len _ _ _) (rwl_cells hsz h5) (rwl_one h1) h63 hbytes hbase
    have h8 := append_sep ht hi hz hsize hby hzs hsz hown (rwl_len _ _ _) (rwl_cells hsz h5) (rwl_one h1) h63 hbytes hbase hr
    rw [rwl_add hsz] at h6
    have hk := h v' w' h6 h7 (fun b hb => by
      rcases h8 with h | h
      · exact Or.inl (h ▸ hb)
      · rw [h] at hb
        cases hb
        exact Or.inr (Nat.le_refl _))
    unfold Oper.wp execOp
    simp only [ho, resolve, invoke, builtin, Sem.run_bind, Sem.run_pure, Result.andThen_ok, List.map_toArray, List.map_cons, List.map_nil, hs, hx, hr]
    exact hk
theorem wpList_appR {P : Program} (w : World) {ops : Array Oper} {rest : List Oper} {o : Oper} {a : Act} {Q : Exit → Act → World → Prop} (hgd : o.guard = none) (s x : Operand) (t : TypeId)
    (ho : o.op = .call { callee := .builtin .append, args := #[s, x], argTypes := #[t, t] })
    (base : Nat) (e : TypeId) (i : TypeInfo) (z : Value) (size bytes : Nat) (ht : P.underlying t = some (.slice e)) (hi : P.info? e = some i) (hz : i.zero = some z)
    (hsize : i.size = size) (hby : i.bytes = bytes) (hzs : z.cells.size = size) (hsz : 0 < size)
    (v : Value) (n : Nat) (F : Nat → Nat → Value) (hs : a.eval s = v) (hown : w.ownsRow base e size v n (rwl size F n))
    (m : Nat) (G : Nat → Nat → Value) (u : Value) (hx : a.eval x = u) (hu : Rs w u size m G) (h1 : ∀ i, i < m → ∀ j, j < size → (G i j).oneCell' = true)
    (h63 : n + m ≤ maxLen) (hbytes : (n + m) * bytes ≤ 140737488355328) (hbase : base ≤ w.heap.size)
    (h : ∀ v' w', w'.ownsRow base e size v' (n + m) (rwl size (fun i => if i < n then F i else G (i - n)) (n + m)) → w.grownBy w' v.ownBlock → (∀ b, v'.ownBlock = some b → v.ownBlock = some b ∨ w.heap.size ≤ b) → wpList P ops Q rest (a.put o.dst v') w') : wpList P ops Q (o :: rest) a w :=
  wpList_plain hgd fun _ hK => wp_appR w s x t ho base e i z size bytes ht hi hz hsize hby hzs hsz v n F hs hown m G u hx hu h1 h63 hbytes hbase fun v' w' h2 h3 h4 => hK _ _ (h v' w' h2 h3 h4)
/-- append of an empty list, wherever it lies. -/
theorem wpList_app0 {P : Program} (w : World) {ops : Array Oper} {rest : List Oper} {o : Oper} {a : Act} {Q : Exit → Act → World → Prop} (hgd : o.guard = none) (s x : Operand) (t : TypeId)
    (ho : o.op = .call { callee := .builtin .append, args := #[s, x], argTypes := #[t, t] })
    (base : Nat) (e : TypeId) (i : TypeInfo) (z : Value) (size bytes : Nat) (ht : P.underlying t = some (.slice e)) (hi : P.info? e = some i) (hz : i.zero = some z)
    (hsize : i.size = size) (hby : i.bytes = bytes) (hzs : z.cells.size = size) (hsz : 0 < size)
    (v : Value) (n : Nat) (xs : List Value) (hs : a.eval s = v) (hown : w.ownsRow base e size v n xs)
    (ad : Addr) (c : Nat) (hx : a.eval x = .slice (some ad) 0 c) (h63 : n ≤ maxLen) (hbytes : n * bytes ≤ 140737488355328) (hbase : base ≤ w.heap.size)
    (h : ∀ v' w', w'.ownsRow base e size v' n xs → w.grownBy w' v.ownBlock → wpList P ops Q rest (a.put o.dst v') w') : wpList P ops Q (o :: rest) a w := by
  refine wpList_plain hgd fun _ hK => ?_
  obtain ⟨v', w', hr, h6, h7, _⟩ := run_append_own (P := P) w base t o.type e i z size bytes ht hi hz hsize hby hzs hsz v n xs hown ad 0 c [] (by simp) (fun j u hj => by simp at hj) (fun u hu => by simp at hu) h63 hbytes hbase
  rw [List.append_nil] at h6
  unfold Oper.wp execOp
  simp only [ho, resolve, invoke, builtin, Sem.run_bind, Sem.run_pure, Result.andThen_ok, List.map_toArray, List.map_cons, List.map_nil, hs, hx, hr]
  exact hK _ _ (h v' w' h6 h7)
end Go.Proofs.YtgldibfpidmfhaaGreatDoor

/- Copies of numbers and of nodes, as new memory. -/
namespace Go.Proofs.YtgldibfpidmfhaaGreatDoor
open Go.RowKit
theorem intInf : ∃ i : TypeInfo, Tryz.prog.info? 3 = some i ∧ i.zero = some (.int .i64 0) ∧ i.size = 1 ∧ i.bytes = 8 := by
  have h : (Tryz.prog.info? 3).map (fun i => (i.zero, i.size, i.bytes)) = some (some (.int .i64 0), 1, 8) := by kernel_rfl
  obtain ⟨i, hi, he⟩ := Option.map_eq_some_iff.mp h
  simp only [Prod.mk.injEq] at he
  exact ⟨i, hi, he.1, he.2.1, he.2.2⟩
theorem nodeInf : ∃ i : TypeInfo, Tryz.prog.info? 56 = some i ∧ i.zero = some (.agg #[.int .i64 0, .int .i64 0, .int .i64 0, .int .u64 0, .int .u64 0, .int .u64 0, .int .u64 0]) ∧ i.size = 7 ∧ i.bytes = 56 := by
  have h : (Tryz.prog.info? 56).map (fun i => (i.zero, i.size, i.bytes)) = some (some (.agg #[.int .i64 0, .int .i64 0, .int .i64 0, .int .u64 0, .int .u64 0, .int .u64 0, .int .u64 0]), 7, 56) := by kernel_rfl
  obtain ⟨i, hi, he⟩ := Option.map_eq_some_iff.mp h
  simp only [Prod.mk.injEq] at he
  exact ⟨i, hi, he.1, he.2.1, he.2.2⟩
theorem lkInf : ∃ i : TypeInfo, Tryz.prog.info? 62 = some i ∧ i.zero = some (.agg #[.slice none 0 0, .slice none 0 0]) ∧ i.size = 2 ∧ i.bytes = 48 := by
  have h : (Tryz.prog.info? 62).map (fun i => (i.zero, i.size, i.bytes)) = some (some (.agg #[.slice none 0 0, .slice none 0 0]), 2, 48) := by kernel_rfl
  obtain ⟨i, hi, he⟩ := Option.map_eq_some_iff.mp h
  simp only [Prod.mk.injEq] at he
  exact ⟨i, hi, he.1, he.2.1, he.2.2⟩
theorem colInf : ∃ i : TypeInfo, Tryz.prog.info? 85 = some i ∧ i.zero = some (.agg #[.int .i64 0, .int .i64 0]) ∧ i.size = 2 ∧ i.bytes = 16 := by
  have h : (Tryz.prog.info? 85).map (fun i => (i.zero, i.size, i.bytes)) = some (some (.agg #[.int .i64 0, .int .i64 0]), 2, 16) := by kernel_rfl
  obtain ⟨i, hi, he⟩ := Option.map_eq_some_iff.mp h
  simp only [Prod.mk.injEq] at he
  exact ⟨i, hi, he.1, he.2.1, he.2.2⟩
theorem qryInf : ∃ i : TypeInfo, Tryz.prog.info? 118 = some i ∧ i.zero = some (.agg #[.int .i64 0, .int .i64 0, .int .i64 0]) ∧ i.size = 3 ∧ i.bytes = 24 := by
  have h : (Tryz.prog.info? 118).map (fun i => (i.zero, i.size, i.bytes)) = some (some (.agg #[.int .i64 0, .int .i64 0, .int .i64 0]), 3, 24) := by kernel_rfl
  obtain ⟨i, hi, he⟩ := Option.map_eq_some_iff.mp h
  simp only [Prod.mk.injEq] at he
  exact ⟨i, hi, he.1, he.2.1, he.2.2⟩
theorem nC_one (T : Int × Int × Int × Nat) (j : Nat) : (nC T j).oneCell' = true := by
  unfold nC
  split
  · rfl
  · split
    · rfl
    · split <;> rfl
set_option maxHeartbeats 2000000 in
set_option maxRecDepth 20000 in
theorem copyI_any (n : Nat) (v : Value) (f : Nat → Int) (hn : n ≤ 17592186044416) (w : World) (h : Rs w v 1 n (fun i _ => .int .i64 (f i))) :
    Calls Tryz.prog 20 #[v] w fun e w' => ∃ v', e = .returned v' ∧ w'.ownsRow w.heap.size 3 1 v' n (rwl 1 (fun i _ => .int .i64 (f i)) n) ∧ Below w.heap.size w w' := by
  obtain ⟨i0, hi, hz0, hz1, hz2⟩ := intInf
  have HI := (show Hid _ from hi); have HZ := (show Hid _ from And.intro hz0 (And.intro hz1 hz2)); clear hi hz0 hz1 hz2
  obtain ⟨w1, hw1⟩ : ∃ x : World, x = w.alloc (.cells #[] 3) := ⟨_, rfl⟩
  have hb1 : Below w.heap.size w w1 := by rw [hw1]; exact (Below.refl _ _).alloc (Nat.le_refl _) _
  have HO : Hid (w1.ownsRow w.heap.size 3 1 (.slice (some ⟨w.heap.size, 0, none⟩) 0 0) 0 (rwl 1 (fun _ _ => undef) 0)) := by rw [hw1]; exact own_new w 3 1
  have HR : Hid (Rs w1 v 1 n (fun i _ => .int .i64 (f i))) := h.below hb1
  have HB := (show Hid (Below w.heap.size w w1) from hb1)
  obtain ⟨N, eN⟩ : ∃ N, N = w.heap.size := ⟨_, rfl⟩
  obtain ⟨oa, cn, rfl⟩ := h.shape
  clear h hb1
  go_enter Tryz.func20, Tryz.ntmps20
  go_wp2_with (first
    | (at_builtin; rw [← hw1]; refine wpList_appR _ rfl _ _ 23 rfl w.heap.size 3 i0 (.int .i64 0) 1 8 Tryz.underlying23 HI.out HZ.out.1 HZ.out.2.1 HZ.out.2.2 rfl (by decide) _ 0 _ rfl HO.out n _ _ rfl HR.out (fun i _ j _ => rfl) ?c1 ?c2 ?c3 ?_)
    | go_in)
  case c1 => unfold maxLen; omega
  case c2 => omega
  case c3 => exact HB.out.size
  intro v' w2 hown' hgrow hsep
  have hF : w2.ownsRow w.heap.size 3 1 v' n (rwl 1 (fun i _ => .int .i64 (f i)) n) := by simpa only [Nat.zero_add, Nat.not_lt_zero, if_false, Nat.sub_zero] using hown'
  have HF : Hid (w2.ownsRow w.heap.size 3 1 v' n (rwl 1 (fun i _ => .int .i64 (f i)) n)) := hF
  clear hF
  have HBF : Hid (Below w.heap.size w w2) := HB.out.grown (by rw [hw1]; exact hgrow) HB.out.size (fun j hj => own_ge HO.out hj)
  clear hown' hgrow hsep
  go_wp2
  go_ret
  exact ⟨_, rfl, HF.out, HBF.out⟩
set_option maxHeartbeats 2000000 in
set_option maxRecDepth 20000 in
theorem copyN_any (n : Nat) (v : Value) (f : Nat → Int × Int × Int × Nat) (hn : n ≤ 2513169434916) (w : World) (h : Rs w v 7 n (fun i => nC (f i))) :
    Calls Tryz.prog 19 #[v] w fun e w' => ∃ v', e = .returned v' ∧ w'.ownsRow w.heap.size 56 7 v' n (rwl 7 (fun i => nC (f i)) n) ∧ Below w.heap.size w w' := by
  obtain ⟨i0, hi, hz0, hz1, hz2⟩ := nodeInf
  have HI := (show Hid _ from hi); have HZ := (show Hid _ from And.intro hz0 (And.intro hz1 hz2)); clear hi hz0 hz1 hz2
  obtain ⟨w1, hw1⟩ : ∃ x : World, x = w.alloc (.cells #[] 56) := ⟨_, rfl⟩
  have hb1 : Below w.heap.size w w1 := by rw [hw1]; exact (Below.refl _ _).alloc (Nat.le_refl _) _
  have HO : Hid (w1.ownsRow w.heap.size 56 7 (.slice (some ⟨w.heap.size, 0, none⟩) 0 0) 0 (rwl 7 (fun _ _ => undef) 0)) := by rw [hw1]; exact own_new w 56 7
  have HR : Hid (Rs w1 v 7 n (fun i => nC (f i))) := h.below hb1
  have HB := (show Hid (Below w.heap.size w w1) from hb1)
  obtain ⟨N, eN⟩ : ∃ N, N = w.heap.size := ⟨_, rfl⟩
  obtain ⟨oa, cn, rfl⟩ := h.shape
  clear h hb1
  go_enter Tryz.func19, Tryz.ntmps19
  go_wp2_with (first
    | (at_builtin; rw [← hw1]; refine wpList_appR _ rfl _ _ 22 rfl w.heap.size 56 i0 (.agg #[.int .i64 0, .int .i64 0, .int .i64 0, .int .u64 0, .int .u64 0, .int .u64 0, .int .u64 0]) 7 56 Tryz.underlying22 HI.out HZ.out.1 HZ.out.2.1 HZ.out.2.2 rfl (by decide) _ 0 _ rfl HO.out n _ _ rfl HR.out (fun i _ j _ => nC_one _ _) ?c1 ?c2 ?c3 ?_)
    | go_in)
  case c1 => unfold maxLen; omega
  case c2 => omega
  case c3 => exact HB.out.size
  intro v' w2 hown' hgrow hsep
  have hF : w2.ownsRow w.heap.size 56 7 v' n (rwl 7 (fun i => nC (f i)) n) := by simpa only [Nat.zero_add, Nat.not_lt_zero, if_false, Nat.sub_zero] using hown'
  have HF : Hid (w2.ownsRow w.heap.size 56 7 v' n (rwl 7 (fun i => nC (f i)) n)) := hF
  clear hF
  have HBF : Hid (Below w.heap.size w w2) := HB.out.grown (by rw [hw1]; exact hgrow) HB.out.size (fun j hj => own_ge HO.out hj)
  clear hown' hgrow hsep
  go_wp2
  go_ret
  exact ⟨_, rfl, HF.out, HBF.out⟩
set_option maxHeartbeats 2000000 in
set_option maxRecDepth 20000 in
theorem copyI_zero (a : Addr) (c : Nat) (f : Nat → Int) (w : World) :
    Calls Tryz.prog 20 #[.slice (some a) 0 c] w fun e w' => ∃ v', e = .returned v' ∧ w'.ownsRow w.heap.size 3 1 v' 0 (rwl 1 (fun i _ => .int .i64 (f i)) 0) ∧ Below w.heap.size w w' := by
  obtain ⟨i0, hi, hz0, hz1, hz2⟩ := intInf
  have HI := (show Hid _ from hi); have HZ := (show Hid _ from And.intro hz0 (And.intro hz1 hz2)); clear hi hz0 hz1 hz2
  obtain ⟨w1, hw1⟩ : ∃ x : World, x = w.alloc (.cells #[] 3) := ⟨_, rfl⟩
  have hb1 : Below w.heap.size w w1 := by rw [hw1]; exact (Below.refl _ _).alloc (Nat.le_refl _) _
  have HO : Hid (w1.ownsRow w.heap.size 3 1 (.slice (some ⟨w.heap.size, 0, none⟩) 0 0) 0 (rwl 1 (fun i _ => .int .i64 (f i)) 0)) := by rw [hw1]; exact own_new w 3 1
  have HB := (show Hid (Below w.heap.size w w1) from hb1)
  clear hb1
  go_enter Tryz.func20, Tryz.ntmps20
  go_wp2_with (first
    | (at_builtin; rw [← hw1]; refine wpList_app0 _ rfl _ _ 23 rfl w.heap.size 3 i0 (.int .i64 0) 1 8 Tryz.underlying23 HI.out HZ.out.1 HZ.out.2.1 HZ.out.2.2 rfl (by decide) _ 0 _ rfl HO.out a c rfl (by decide) (by decide) HB.out.size ?_)
    | go_in)
  intro v' w2 hown' hgrow
  have HF : Hid (w2.ownsRow w.heap.size 3 1 v' 0 (rwl 1 (fun i _ => .int .i64 (f i)) 0)) := hown'
  have HBF : Hid (Below w.heap.size w w2) := HB.out.grown (by rw [hw1]; exact hgrow) HB.out.size (fun j hj => own_ge HO.out hj)
  clear hown' hgrow
  go_wp2
  go_ret
  exact ⟨_, rfl, HF.out, HBF.out⟩
/-- A list of numbers; where it is empty, nothing is said of the place. -/
def Zq (w : World) (v : Value) (n : Nat) (f : Nat → Int) : Prop := Zs w v n f ∨ (n = 0 ∧ ∃ a c, v = .slice (some a) 0 c)
theorem Zq.below {w w' : World} {v : Value} {n : Nat} {f : Nat → Int} (h : Zq w v n f) (hb : Below w.heap.size w w') : Zq w' v n f := h.elim (fun h => Or.inl (h.below hb)) Or.inr
theorem Zq.shape {w : World} {v : Value} {n : Nat} {f : Nat → Int} (h : Zq w v n f) : ∃ oa c, v = .slice oa n c := by
  rcases h with h | ⟨rfl, a, c, rfl⟩
  · exact Rs.shape h
  · exact ⟨_, _, rfl⟩
theorem copyI_q (n : Nat) (v : Value) (f : Nat → Int) (hn : n ≤ 17592186044416) (w : World) (h : Zq w v n f) :
    Calls Tryz.prog 20 #[v] w fun e w' => ∃ v', e = .returned v' ∧ w'.ownsRow w.heap.size 3 1 v' n (rwl 1 (fun i _ => .int .i64 (f i)) n) ∧ Below w.heap.size w w' := by
  rcases h with h | ⟨rfl, a, c, rfl⟩
  · exact copyI_any n v f hn w h
  · exact copyI_zero a c f w
end Go.Proofs.YtgldibfpidmfhaaGreatDoor

