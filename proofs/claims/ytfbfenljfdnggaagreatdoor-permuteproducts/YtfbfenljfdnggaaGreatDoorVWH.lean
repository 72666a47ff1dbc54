/- Lists of rows of cells, whatever they are: their cells, and append. No walk. -/
import Derived.Test.YtfbfenljfdnggaaGreatDoorVW7
import Derived.OwnWalk
import Derived.Laws.AppendOwnNone
import Derived.Laws.AppendOwn
import Derived.Test.YtfbfenljfdnggaaGreatDoorVWL
namespace Go.Proofs.YtfbfenljfdnggaaGreatDoor
open Go.RowKit
/-- The cells of a list of n rows of s cells. -/
def rwl (s : Nat) (F : Nat → Nat → Value) (n : Nat) : List Value := (List.range (n * s)).map (fun t => F (t / s) (t % s))
section
variable {s n m : Nat} {F G : Nat → Nat → Value}
theorem rwl_len (s : Nat) (F : Nat → Nat → Value) (n : Nat) : (rwl s F n).length = n * s := by simp [rwl]
theorem row_div {i j s : Nat} (hj : j < s) : (i * s + j) / s = i := by rw [Nat.mul_comm, Nat.mul_add_div (by omega), Nat.div_eq_of_lt hj, Nat.add_zero]
theorem row_mod {i j s : Nat} (hj : j < s) : (i * s + j) % s = j := by rw [Nat.mul_comm, Nat.mul_add_mod, Nat.mod_eq_of_lt hj]
theorem rwl_at (t : Nat) (ht : t < n * s) : (rwl s F n)[t]? = some (F (t / s) (t % s)) := by
  unfold rwl
  rw [List.getElem?_map, List.getElem?_range ht]
  rfl
theorem rwl_get (i j : Nat) (hi : i < n) (hj : j < s) : (rwl s F n)[i * s + j]? = some (F i j) := by
  rw [rwl_at _ (row_lt hi hj), row_div hj, row_mod hj]
theorem rwl_congr (h : ∀ i, i < n → ∀ j, j < s → F i j = G i j) : rwl s F n = rwl s G n := by
  unfold rwl
  apply List.map_congr_left
  intro t ht
  have h1 : t < n * s := by simpa using ht
  have h0 : 0 < s := by
    rcases Nat.eq_zero_or_pos s with h | h
    · subst h; omega
    · exact h
  exact h _ ((Nat.div_lt_iff_lt_mul h0).mpr h1) _ (Nat.mod_lt _ h0)
theorem rwl_add (h0 : 0 < s) : rwl s F n ++ rwl s G m = rwl s (fun i => if i < n then F i else G (i - n)) (n + m) := by
  apply List.ext_getElem?
  intro t
  by_cases h1 : t < n * s
  · rw [List.getElem?_append_left (by rw [rwl_len]; exact h1), rwl_at t h1, rwl_at t (by rw [Nat.add_mul]; omega)]
    rw [if_pos ((Nat.div_lt_iff_lt_mul h0).mpr h1)]
  · rw [List.getElem?_append_right (by rw [rwl_len]; omega), rwl_len]
    by_cases h2 : t < (n + m) * s
    · have h3 : n ≤ t / s := (Nat.le_div_iff_mul_le h0).mpr (by omega)
      rw [rwl_at _ (by rw [Nat.add_mul] at h2; omega), rwl_at t h2, if_neg (by omega)]
      rw [show t - n * s = t - s * n from by rw [Nat.mul_comm], Nat.sub_mul_div, Nat.sub_mul_mod (by rw [Nat.mul_comm]; omega)]
    · rw [List.getElem?_eq_none (by rw [rwl_len]; rw [Nat.add_mul] at h2; omega), List.getElem?_eq_none (by rw [rwl_len]; omega)]
theorem rwl_one (h : ∀ i, i < n → ∀ j, j < s → (F i j).oneCell' = true) : ∀ u ∈ rwl s F n, u.oneCell' = true := by
  intro u hu
  unfold rwl at hu
  obtain ⟨t, ht, rfl⟩ := List.mem_map.mp hu
  have h1 : t < n * s := by simpa using ht
  have h0 : 0 < s := by
    rcases Nat.eq_zero_or_pos s with h | h
    · subst h; omega
    · exact h
  exact h _ ((Nat.div_lt_iff_lt_mul h0).mpr h1) _ (Nat.mod_lt _ h0)
theorem rwl_cells {w : World} {a oa : Nat} (h0 : 0 < s) (hc : ∀ i, i < n → ∀ j, j < s → w.cell? ⟨a, oa + i * s + j, none⟩ = some (F i j)) (t : Nat) (u : Value) (ht : (rwl s F n)[t]? = some u) : w.cell? ((⟨a, oa, none⟩ : Addr).add t) = some u := by
  have htn : t < n * s := by
    rcases Nat.lt_or_ge t (n * s) with h | h
    · exact h
    · rw [List.getElem?_eq_none (by rw [rwl_len]; exact h)] at ht; cases ht
  rw [rwl_at t htn] at ht
  cases ht
  have hadd : (⟨a, oa, none⟩ : Addr).add t = ⟨a, oa + t / s * s + t % s, none⟩ := by
    have e2 : oa + t / s * s + t % s = oa + t := by rw [Nat.add_assoc, Nat.div_add_mod']
    rw [e2]; unfold Addr.add; split <;> simp_all
  rw [hadd]
  exact hc _ ((Nat.div_lt_iff_lt_mul h0).mpr htn) _ (Nat.mod_lt _ h0)
end
theorem own_new (w : World) (t : TypeId) (s : Nat) : (w.alloc (.cells #[] t)).ownsRow w.heap.size t s (.slice (some ⟨w.heap.size, 0, none⟩) 0 0) 0 [] :=
  ⟨by simp, Or.inr ⟨w.heap.size, 0, #[], rfl, Nat.le_refl _, (by show (w.heap.push _)[w.heap.size]? = _; simp), Nat.le_refl _, by decide, by simp, by simp⟩⟩
section
variable {w w' : World} {base m n s : Nat} {t : TypeId} {v : Value} {xs : List Value} {F : Nat → Nat → Value}
theorem own_ge (h : w.ownsRow base t s v n xs) {j : Nat} (hj : v.ownBlock = some j) : base ≤ j := by
  obtain ⟨_, h⟩ := h
  rcases h with ⟨rfl, _⟩ | ⟨g, c, cur, rfl, hb, _⟩
  · simp [Value.ownBlock] at hj
  · simp [Value.ownBlock] at hj; omega
theorem own_keep (h : w.ownsRow base t s v n xs) (hb : ∀ b, v.ownBlock = some b → w'.heap[b]? = w.heap[b]?) : w'.ownsRow base t s v n xs := by
  refine ⟨h.1, ?_⟩
  rcases h.2 with hn | ⟨g, cap, cur, hL, hbs, hg, rest⟩
  · exact Or.inl hn
  · refine Or.inr ⟨g, cap, cur, hL, hbs, ?_, rest⟩
    rw [hb g (by rw [hL]; rfl)]
    exact hg
theorem own_lt (h : w.ownsRow base t s v n xs) (b : Nat) (hb : v.ownBlock = some b) : base ≤ b ∧ b < w.heap.size := by
  rcases h.2 with ⟨hn, _⟩ | ⟨g, cap, cur, hL, hbs, hg, rest⟩
  · rw [hn] at hb; cases hb
  · rw [hL] at hb
    cases hb
    exact ⟨hbs, (Array.getElem?_eq_some_iff.1 hg).1⟩
theorem own_below (h : w.ownsRow base t s v n xs) (hb : Below w.heap.size w w') : w'.ownsRow base t s v n xs :=
  own_keep h (fun b hv => hb.block b (own_lt h b hv).2)
theorem own_shape (h : w.ownsRow base t s v n xs) : ∃ oa c, v = .slice oa n c ∧ n ≤ maxLen := by
  rcases h.2 with ⟨rfl, rfl⟩ | ⟨g, cap, cur, rfl, _, _, h1, h2, _⟩
  · exact ⟨none, 0, rfl, by decide⟩
  · exact ⟨_, _, rfl, Nat.le_trans h1 h2⟩
/-- A list of the call's own, as rows. -/
theorem own_Rs (h : w.ownsRow base t s v n (rwl s F n)) : Rs w v s n F := by
  obtain ⟨_, h⟩ := h
  rcases h with ⟨rfl, h0⟩ | ⟨g, c, cur, rfl, hb, hg, hc, hm, hs, ht⟩
  · exact Or.inl ⟨rfl, h0⟩
  · refine Or.inr ⟨g, 0, c, rfl, hc, hm, (Array.getElem?_eq_some_iff.1 hg).1, fun i hi j hj => ?_⟩
    have h1 : cur[i * s + j]? = (rwl s F n)[i * s + j]? := by rw [← ht, List.getElem?_take_of_lt (row_lt hi hj), Array.getElem?_toList]
    rw [rwl_get i j hi hj] at h1
    rw [Nat.zero_add]
    simp [World.cell?, hg, h1]
end
/-- append of a list of rows to a list of one's own, as an operation: where it lies behind it too. -/
theorem wp_appR {P : Program} (w : World) {o : Oper} {a : Act} {K : Act → World → Prop} {Q : Exit → Act → World → Prop} (s x : Operand) (t : TypeId)
    (ho : o.op = .call { callee := .builtin .append, args := #[s, x], argTypes := #[t, t] })
    (base : Nat) (e : TypeId) (i : TypeInfo) (z : Value) (size bytes : Nat) (ht : P.underlying t = some (.slice e)) (hi : P.info? e = some i) (hz : i.zero = some z)
    (hsize : i.size = size) (hby : i.bytes = bytes) (hzs : z.cells.size = size) (hsz : 0 < size)
    (v : Value) (n : Nat) (F : Nat → Nat → Value) (hs : a.eval s = v) (hown : w.ownsRow base e size v n (rwl size F n))
    (m : Nat) (G : Nat → Nat → Value) (u : Value) (hx : a.eval x = u) (hu : Rs w u size m G) (h1 : ∀ i, i < m → ∀ j, j < size → (G i j).oneCell' = true)
    (h63 : n + m ≤ maxLen) (hbytes : (n + m) * bytes ≤ 140737488355328) (hbase : base ≤ w.heap.size)
    (h : ∀ v' w', w'.ownsRow base e size v' (n + m) (rwl size (fun i => if i < n then F i else G (i - n)) (n + m)) → w.grownBy w' v.ownBlock → (∀ b, v'.ownBlock = some b → v.ownBlock = some b ∨ w.heap.size ≤ b) → K (a.put o.dst v') w') : o.wp P a w K Q := by
  rcases hu with ⟨rfl, rfl⟩ | ⟨b, oo, c, rfl, h2, h3, h4, h5⟩
  · have hrun := run_append_owned_none (P := P) (w := w) base t o.type e i size ht hi v n (rwl size F n) hown
    have hk := h v w (by rw [← rwl_add hsz, show rwl size G 0 = [] by simp [rwl], List.append_nil]; exact hown) ⟨rfl, rfl, rfl, Nat.le_refl _, fun _ _ _ => rfl⟩ (fun b hb => Or.inl hb)
    unfold Oper.wp
    simp [execOp, ho, resolve, invoke, builtin, hs, hx, hrun, Result.andThen]
    exact hk
  · obtain ⟨v', w', hr, h6, h7, _⟩ := run_append_own (P := P) w base t o.type e i z size bytes ht hi hz hsize hby hzs hsz v n (rwl size F n) hown ⟨b, oo, none⟩ m c (rwl size G m) (rwl_len _ _ _) (rwl_cells hsz h5) (rwl_one h1) h63 hbytes hbase
    have h8 := append_sep ht hi hz hsize hby hzs hsz hown (rwl_len _ _ _) (rwl_cells hsz h5) (rwl_one h1) h63 hbytes hbase hr
    rw [rwl_add hsz] at h6
    have hk := h v' w' h6 h7 (fun b hb => by
      rcases h8 with h | h
      · exact Or.inl (h ▸ hb)
      · rw [h] at hb
        cases hb
        exact Or.inr (Nat.le_refl _))
    unfold Oper.wp execOp
    simp only [ho, resolve, invoke, builtin, Sem.run_bind, Sem.run_pure, Result.andThen_ok, List.map_toArray, List.map_cons, List.map_nil, hs, hx, hr]
    exact hk
theorem wpList_appR {P : Program} (w : World) {ops : Array Oper} {rest : List Oper} {o : Oper} {a : Act} {Q : Exit → Act → World → Prop} (hgd : o.guard = none) (s x : Operand) (t : TypeId)
    (ho : o.op = .call { callee := .builtin .append, args := #[s, x], argTypes := #[t, t] })
    (base : Nat) (e : TypeId) (i : TypeInfo) (z : Value) (size bytes : Nat) (ht : P.underlying t = some (.slice e)) (hi : P.info? e = some i) (hz : i.zero = some z)
    (hsize : i.size = size) (hby : i.bytes = bytes) (hzs : z.cells.size = size) (hsz : 0 < size)
    (v : Value) (n : Nat) (F : Nat → Nat → Value) (hs : a.eval s = v) (hown : w.ownsRow base e size v n (rwl size F n))
    (m : Nat) (G : Nat → Nat → Value) (u : Value) (hx : a.eval x = u) (hu : Rs w u size m G) (h1 : ∀ i, i < m → ∀ j, j < size → (G i j).oneCell' = true)
    (h63 : n + m ≤ maxLen) (hbytes : (n + m) * bytes ≤ 140737488355328) (hbase : base ≤ w.heap.size)
    (h : ∀ v' w', w'.ownsRow base e size v' (n + m) (rwl size (fun i => if i < n then F i else G (i - n)) (n + m)) → w.grownBy w' v.ownBlock → (∀ b, v'.ownBlock = some b → v.ownBlock = some b ∨ w.heap.size ≤ b) → wpList P ops Q rest (a.put o.dst v') w') : wpList P ops Q (o :: rest) a w :=
  wpList_plain hgd fun _ hK => wp_appR w s x t ho base e i z size bytes ht hi hz hsize hby hzs hsz v n F hs hown m G u hx hu h1 h63 hbytes hbase fun v' w' h2 h3 h4 => hK _ _ (h v' w' h2 h3 h4)
/-- append of an empty list, wherever it lies. -/
theorem wpList_app0 {P : Program} (w : World) {ops : Array Oper} {rest : List Oper} {o : Oper} {a : Act} {Q : Exit → Act → World → Prop} (hgd : o.guard = none) (s x : Operand) (t : TypeId)
    (ho : o.op = .call { callee := .builtin .append, args := #[s, x], argTypes := #[t, t] })
    (base : Nat) (e : TypeId) (i : TypeInfo) (z : Value) (size bytes : Nat) (ht : P.underlying t = some (.slice e)) (hi : P.info? e = some i) (hz : i.zero = some z)
    (hsize : i.size = size) (hby : i.bytes = bytes) (hzs : z.cells.size = size) (hsz : 0 < size)
    (v : Value) (n : Nat) (xs : List Value) (hs : a.eval s = v) (hown : w.ownsRow base e size v n xs)
    (ad : Addr) (c : Nat) (hx : a.eval x = .slice (some ad) 0 c) (h63 : n ≤ maxLen) (hbytes : n * bytes ≤ 140737488355328) (hbase : base ≤ w.heap.size)
    (h : ∀ v' w', w'.ownsRow base e size v' n xs → w.grownBy w' v.ownBlock → wpList P ops Q rest (a.put o.dst v') w') : wpList P ops Q (o :: rest) a w := by
  refine wpList_plain hgd fun _ hK => ?_
  obtain ⟨v', w', hr, h6, h7, _⟩ := run_append_own (P := P) w base t o.type e i z size bytes ht hi hz hsize hby hzs hsz v n xs hown ad 0 c [] (by simp) (fun j u hj => by simp at hj) (fun u hu => by simp at hu) h63 hbytes hbase
  rw [List.append_nil] at h6
  unfold Oper.wp execOp
  simp only [ho, resolve, invoke, builtin, Sem.run_bind, Sem.run_pure, Result.andThen_ok, List.map_toArray, List.map_cons, List.map_nil, hs, hx, hr]
  exact hK _ _ (h v' w' h6 h7)
end Go.Proofs.YtfbfenljfdnggaaGreatDoor

/- Long lists copied and compared. -/
namespace Go.Proofs.YtfbfenljfdnggaaGreatDoor
open Go.RowKit
set_option maxHeartbeats 2000000 in
theorem copyB_some (n cn a oa : Nat) (f : Nat → Nat) (hn : n ≤ 4398046510976) (w : World) (ha : a < w.heap.size) (hc : ∀ i, i < n → ∀ j, j < 4 → w.cell? ⟨a, oa + i * 4 + j, none⟩ = some (.int .u64 ((limb j (f i) : Nat) : Int))) :
    Calls Tryz.prog 9 #[.slice (some ⟨a, oa, none⟩) n cn] w fun e w' => ∃ v, e = .returned v ∧ w'.ownsRow w.heap.size 25 4 v n (els f n) ∧ Below w.heap.size w w' := by
  obtain ⟨i0, hi, hz0, hz1, hz2⟩ := elemInfo
  have HI := (show Hid _ from hi); have HZ := (show Hid _ from And.intro hz0 (And.intro hz1 hz2)); clear hi hz0 hz1 hz2
  have HC := (show Hid _ from hc); clear hc
  have hown0 : (w.alloc (.cells #[] 25)).ownsRow w.heap.size 25 4 (.slice (some ⟨w.heap.size, 0, none⟩) 0 0) 0 [] :=
    ⟨rfl, Or.inr ⟨w.heap.size, 0, #[], rfl, Nat.le_refl _, new_blockE _ _, Nat.le_refl _, by decide, rfl, rfl⟩⟩
  have HO : Hid ((w.alloc (.cells #[] 25)).ownsRow w.heap.size 25 4 (.slice (some ⟨w.heap.size, 0, none⟩) 0 0) 0 []) := hown0
  clear hown0
  go_enter Tryz.func9, Tryz.ntmps9
  go_wp2_with (first
    | (at_builtin; refine wpList_append_own _ rfl _ _ 26 rfl w.heap.size 25 i0 (.agg #[.int .u64 0, .int .u64 0, .int .u64 0, .int .u64 0]) 4 32 Tryz.underlying26 HI.out HZ.out.1 HZ.out.2.1 HZ.out.2.2 rfl (by decide) _ _ _ rfl HO.out ⟨a, oa, none⟩ n cn (els f n) rfl ?c0 ?c1 ?c2 ?c3 ?c4 ?c5 ?_)
    | go_in)
  case c0 => exact els_len f n
  case c1 =>
    intro j u hj
    have hjn : j < n * 4 := by
      rcases Nat.lt_or_ge j (n * 4) with h | h
      · exact h
      · rw [List.getElem?_eq_none (by rw [els_len]; exact h)] at hj; cases hj
    have e := els_get f n (j / 4) (j % 4) (by omega) (by omega)
    rw [show j / 4 * 4 + j % 4 = j from by omega, hj] at e
    cases e
    have hb : Below w.heap.size w (w.alloc (.cells #[] 25)) := (Below.refl _ _).alloc (Nat.le_refl _) _
    have hadd : (⟨a, oa, none⟩ : Addr).add j = ⟨a, oa + j / 4 * 4 + j % 4, none⟩ := by
      have e2 : oa + j / 4 * 4 + j % 4 = oa + j := by omega
      rw [e2]; unfold Addr.add; split <;> simp_all
    rw [hadd, hb.cell (p := ⟨a, oa + j / 4 * 4 + j % 4, none⟩) ha]
    exact HC.out (j / 4) (by omega) (j % 4) (by omega)
  case c2 => intro u hu; unfold els at hu; obtain ⟨i, _, rfl⟩ := List.mem_map.mp hu; rfl
  case c3 => unfold maxLen; omega
  case c4 => omega
  case c5 => simp
  intro v' w2 hown' hgrow _
  go_wp2
  go_ret
  refine ⟨_, rfl, ?_, ?_⟩
  · exact hown'
  · exact ((Below.refl _ w).alloc (Nat.le_refl _) _).grown hgrow (by simp) (fun j hj => own_block_geE HO.out hj)
/-- CopyElems: the same elements in new memory. -/
theorem copyB_any (n : Nat) (v : Value) (f : Nat → Nat) (hn : n ≤ 4398046510976) (w : World) (h : Es w v n f) :
    Calls Tryz.prog 9 #[v] w fun e w' => ∃ v', e = .returned v' ∧ w'.ownsRow w.heap.size 25 4 v' n (els f n) ∧ Below w.heap.size w w' := by
  rcases h with ⟨rfl, rfl⟩ | ⟨b, o, c, rfl, _, _, hb, hc⟩
  · exact copyE_nil w
  · exact copyB_some n c b o f hn w hb hc
end Go.Proofs.YtfbfenljfdnggaaGreatDoor

/- sigilref00.CopyTable: a table as new memory. -/
namespace Go.Proofs.YtfbfenljfdnggaaGreatDoor
open Go.RowKit
theorem tabInf : ∃ i : TypeInfo, Tryz.prog.info? 26 = some i ∧ i.zero = some (.slice none 0 0) ∧ i.size = 1 ∧ i.bytes = 24 := by
  have h : (Tryz.prog.info? 26).map (fun i => (i.zero, i.size, i.bytes)) = some (some (.slice none 0 0), 1, 24) := by kernel_rfl
  obtain ⟨i, hi, he⟩ := Option.map_eq_some_iff.mp h
  simp only [Prod.mk.injEq] at he
  exact ⟨i, hi, he.1, he.2.1, he.2.2⟩
theorem Es.grown {w w' : World} {v : Value} {n : Nat} {f : Nat → Nat} {row : Option Nat} (h : Es w v n f) (hg : w.grownBy w' row) (hs : ∀ b o c, v = .slice (some ⟨b, o, none⟩) n c → row ≠ some b) : Es w' v n f := by
  rcases h with h | ⟨b, o, c, hv, h1, h2, h3, h4⟩
  · exact Or.inl h
  · refine Or.inr ⟨b, o, c, hv, h1, h2, Nat.lt_of_lt_of_le h3 hg.size, fun i hi j hj => ?_⟩
    rw [World.cell?_of_block (w := w) (hg.block b h3 (fun e => hs b o c hv e.symm))]
    exact h4 i hi j hj
theorem Es.blk {w : World} {v : Value} {n : Nat} {f : Nat → Nat} (h : Es w v n f) (b o c : Nat) (hv : v = .slice (some ⟨b, o, none⟩) n c) : b < w.heap.size := by
  rcases h with ⟨h, _⟩ | ⟨b', o', c', h, _, _, h3, _⟩
  · rw [h] at hv; cases hv
  · rw [h] at hv; cases hv; exact h3
/-- A list of elements that lies not in block q, nor below base. -/
def EsN (w : World) (v : Value) (n : Nat) (f : Nat → Nat) (q : Option Nat) (base : Nat) : Prop := Es w v n f ∧ ∀ b o c, v = .slice (some ⟨b, o, none⟩) n c → q ≠ some b ∧ base ≤ b
theorem EsN.below {w w' : World} {v : Value} {n : Nat} {f : Nat → Nat} {q : Option Nat} {base : Nat} (h : EsN w v n f q base) (hb : Below w.heap.size w w') : EsN w' v n f q base := ⟨h.1.below hb, h.2⟩
theorem EsN.grown {w w' : World} {v v' u : Value} {n : Nat} {f : Nat → Nat} {base : Nat} (h : EsN w v n f u.ownBlock base) (hg : w.grownBy w' u.ownBlock) (hs : ∀ b, v'.ownBlock = some b → u.ownBlock = some b ∨ w.heap.size ≤ b) : EsN w' v n f v'.ownBlock base := by
  refine ⟨h.1.grown hg (fun b o c hv => (h.2 b o c hv).1), fun b o c hv => ⟨fun e => ?_, (h.2 b o c hv).2⟩⟩
  rcases hs b e with h1 | h1
  · exact (h.2 b o c hv).1 h1
  · have := h.1.blk b o c hv; omega
theorem own_EsN {w : World} {base b0 n : Nat} {v : Value} {f : Nat → Nat} {q : Option Nat} (h : w.ownsRow base 25 4 v n (els f n)) (hq : ∀ b, q = some b → b < base) (h0 : b0 ≤ base) : EsN w v n f q b0 :=
  ⟨own_Es h, fun b o c hv => by
    have h1 := own_ge h (j := b) (by rw [hv]; rfl)
    refine ⟨fun e => ?_, by omega⟩
    have h2 := hq b e
    omega⟩
theorem one_tab (w : World) (t : TypeId) (v : Value) : Rs (w.alloc (.cells #[v] t)) (.slice (some ⟨w.heap.size, 0, none⟩) 1 1) 1 1 (fun _ _ => v) := by
  refine BlkR.Rs (t := t) ⟨#[v], ?_, rfl, ?_⟩ (by decide)
  · show (w.heap.push _)[w.heap.size]? = _; simp
  · intro i hi j hj
    have hi0 : i = 0 := by omega
    have hj0 : j = 0 := by omega
    subst hi0 hj0
    rfl
/-- A table of one's own: in none of its blocks its lists. -/
def TabO (w : World) (v : Value) (base m : Nat) (F : Nat → Value) (L : Nat → Nat) (E : Nat → Nat → Nat) : Prop :=
  w.ownsRow base 26 1 v m (rwl 1 (fun i _ => F i) m) ∧ ∀ i, i < m → EsN w (F i) (L i) (E i) v.ownBlock base
theorem TabO.tab {w : World} {v : Value} {base m : Nat} {F : Nat → Value} {L : Nat → Nat} {E : Nat → Nat → Nat} (h : TabO w v base m F L E) : Tab w v m F L E := ⟨own_Rs h.1, fun i hi => Or.inl (h.2 i hi).1⟩
set_option maxHeartbeats 2000000 in
set_option maxRecDepth 20000 in
theorem copyE_zero (a : Addr) (c : Nat) (f : Nat → Nat) (w : World) :
    Calls Tryz.prog 9 #[.slice (some a) 0 c] w fun e w' => ∃ v', e = .returned v' ∧ w'.ownsRow w.heap.size 25 4 v' 0 (els f 0) ∧ Below w.heap.size w w' := by
  obtain ⟨i0, hi, hz0, hz1, hz2⟩ := elemInfo
  have HI := (show Hid _ from hi); have HZ := (show Hid _ from And.intro hz0 (And.intro hz1 hz2)); clear hi hz0 hz1 hz2
  obtain ⟨w1, hw1⟩ : ∃ x : World, x = w.alloc (.cells #[] 25) := ⟨_, rfl⟩
  have hb1 : Below w.heap.size w w1 := by rw [hw1]; exact (Below.refl _ _).alloc (Nat.le_refl _) _
  have HO : Hid (w1.ownsRow w.heap.size 25 4 (.slice (some ⟨w.heap.size, 0, none⟩) 0 0) 0 (els f 0)) := by rw [hw1]; exact own_new w 25 4
  have HB := (show Hid (Below w.heap.size w w1) from hb1)
  clear hb1
  go_enter Tryz.func9, Tryz.ntmps9
  go_wp2_with (first
    | (at_builtin; rw [← hw1]; refine wpList_app0 _ rfl _ _ 26 rfl w.heap.size 25 i0 (.agg #[.int .u64 0, .int .u64 0, .int .u64 0, .int .u64 0]) 4 32 Tryz.underlying26 HI.out HZ.out.1 HZ.out.2.1 HZ.out.2.2 rfl (by decide) _ 0 _ rfl HO.out a c rfl (by decide) (by decide) HB.out.size ?_)
    | go_in)
  intro v' w2 hown' hgrow
  have HF : Hid (w2.ownsRow w.heap.size 25 4 v' 0 (els f 0)) := hown'
  have HBF : Hid (Below w.heap.size w w2) := HB.out.grown (by rw [hw1]; exact hgrow) HB.out.size (fun j hj => own_ge HO.out hj)
  clear hown' hgrow
  go_wp2
  go_ret
  exact ⟨_, rfl, HF.out, HBF.out⟩
theorem copyE_z (n : Nat) (v : Value) (f : Nat → Nat) (hn : n ≤ 4398046510976) (w : World) (h : Ez w v n f) :
    Calls Tryz.prog 9 #[v] w fun e w' => ∃ v', e = .returned v' ∧ w'.ownsRow w.heap.size 25 4 v' n (els f n) ∧ Below w.heap.size w w' := by
  rcases h with h | ⟨rfl, a, c, rfl⟩
  · exact copyB_any n v f hn w h
  · exact copyE_zero a c f w
set_option maxHeartbeats 4000000 in
set_option maxRecDepth 100000 in
theorem copyT_any (m cm : Nat) (om : Option Addr) (F : Nat → Value) (L : Nat → Nat) (E : Nat → Nat → Nat) (hm : m ≤ 1000000) (hL : ∀ i, i < m → L i ≤ 4398046510976) (w : World) (hv : Tab w (.slice om m cm) m F L E) :
    Calls Tryz.prog 7 #[.slice om m cm] w fun e w' => (∃ v', e = .returned v' ∧ ∃ F', TabO w' v' w.heap.size m F' L E) ∧ Below w.heap.size w w' := by
  obtain ⟨it, hit, ht0, ht1, ht2⟩ := tabInf
  have HIT := (show Hid _ from hit); have HZT := (show Hid _ from And.intro ht0 (And.intro ht1 ht2)); clear hit ht0 ht1 ht2
  have HT : Hid (∀ w', Below w.heap.size w w' → Tab w' (.slice om m cm) m F L E) := fun w' h => hv.below h
  have HLL : Hid (∀ i, i < m → L i ≤ 4398046510976) := hL
  obtain ⟨w1, hw1⟩ : ∃ x : World, x = w.alloc (.cells #[] 26) := ⟨_, rfl⟩
  have hb1 : Below w.heap.size w w1 := by rw [hw1]; exact (Below.refl _ _).alloc (Nat.le_refl _) _
  have HO : Hid (TabO w1 (.slice (some ⟨w.heap.size, 0, none⟩) 0 0) w.heap.size 0 (fun _ => undef) L E) := by rw [hw1]; exact ⟨own_new w 26 1, fun i hi => by omega⟩
  have HB := (show Hid (Below w.heap.size w w1) from hb1)
  clear hv hL hb1
  go_enter Tryz.func7, Tryz.ntmps7
  go_upto_region 2 with fail
  rw [← hw1]
  clear hw1
  go_wp2
  go_loopw [4, 3] (fun iv lv wr => ∃ k : Nat, iv = .int .i64 (k : Int) ∧ k ≤ m ∧ Below w.heap.size w wr ∧ Hid (∃ F', TabO wr lv w.heap.size k F' L E)) (fun iv _ _ => m - (intOf iv).toNat)
  case atStart => exact ⟨0, rfl, Nat.zero_le _, HB.out, ⟨_, HO.out⟩⟩
  case round =>
    obtain ⟨k, rfl, hk, hbr, HTO⟩ := hrel
    obtain ⟨F', hto⟩ := HTO.out
    obtain ⟨ol, cl, rfl, _⟩ := own_shape hto.1
    by_cases hlt : k < m
    · have hki : (k : Int) < (m : Int) := by omega
      have hk0 : (0 : Int) ≤ (k : Int) := by omega
      have hT := HT.out _ hbr
      have hE := hT.2 k hlt
      obtain ⟨ab, ao, oi, ci, rfl, _, hF, a0⟩ := hT.at hlt
      rw [hF] at hE
      have HC : Hid (Calls _ _ _ _ _) := copyE_z (L k) (.slice oi (L k) ci) (E k) (HLL.out k hlt) wr hE
      obtain ⟨y, ey⟩ : ∃ y, y = L k := ⟨_, rfl⟩
      rw [← ey] at a0 HC
      have HY : Hid (y = L k) := ey
      have HBR : Hid (Below w.heap.size w wr) := hbr
      have HTW : Hid (TabO wr (.slice ol k cl) w.heap.size k F' L E) := hto
      clear ey hE hF hT hto hbr HTO
      go_wp2_with fail
      refine Calls.mono HC.out ?_
      rintro e w2 ⟨v2, rfl, ho2, hb2⟩
      obtain ⟨o2, c2, rfl, _⟩ := own_shape ho2
      obtain ⟨w3, hw3⟩ : ∃ x : World, x = w2.alloc (.cells #[.slice o2 y c2] 26) := ⟨_, rfl⟩
      have hb3 : Below wr.heap.size wr w3 := by rw [hw3]; exact bStep hb2 (bAlloc (Below.refl _ _) _)
      have hb23 : Below w2.heap.size w2 w3 := by rw [hw3]; exact bAlloc (Below.refl _ _) _
      have HOA : Hid (w3.ownsRow w.heap.size 26 1 (.slice ol k cl) k (rwl 1 (fun i _ => F' i) k)) := own_below HTW.out.1 hb3
      have HON1 : Hid (Rs w3 (.slice (some ⟨w2.heap.size, 0, none⟩) 1 1) 1 1 (fun _ _ => .slice o2 y c2)) := by rw [hw3]; exact one_tab w2 26 _
      have HSZ : Hid (w.heap.size ≤ w3.heap.size) := Nat.le_trans HBR.out.size hb3.size
      have HNE : Hid (EsN w3 (.slice o2 y c2) (L k) (E k) (Value.slice ol k cl).ownBlock w.heap.size) := by
        rw [← HY.out]
        refine EsN.below (own_EsN ho2 (fun b hb => ?_) HBR.out.size) hb23
        exact (own_lt HTW.out.1 b hb).2
      have HB3 : Hid (Below wr.heap.size wr w3) := hb3
      clear ho2 hb2 hb3 hb23 HC a0
      go_wp2_with (first
        | (at_builtin; rw [← hw3]; refine wpList_appR _ rfl _ _ 22 rfl w.heap.size 26 it (.slice none 0 0) 1 24 Tryz.underlying22 HIT.out HZT.out.1 HZT.out.2.1 HZT.out.2.2 rfl (by decide) _ k _ rfl HOA.out 1 _ _ rfl HON1.out (fun i _ j _ => rfl) ?c1 ?c2 HSZ.out ?_)
        | go_in)
      case c1 => unfold maxLen; omega
      case c2 => omega
      intro v' w4 hown4 hg4 hsep4
      have HTN : Hid (∃ F'', TabO w4 v' w.heap.size (k + 1) F'' L E) := by
        refine ⟨fun i => if i < k then F' i else .slice o2 y c2, ?_, fun i hi => ?_⟩
        · rw [rwl_congr (G := fun i => if i < k then (fun i _ => F' i) i else fun _ => .slice o2 y c2) (fun i hi j _ => by
            dsimp only
            by_cases h : i < k
            · rw [if_pos h, if_pos h]
            · rw [if_neg h, if_neg h])]
          exact hown4
        · by_cases h : i < k
          · dsimp only
            rw [if_pos h]
            exact ((HTW.out.2 i h).below HB3.out).grown (by rw [hw3]; exact hg4) (fun b hb => (hsep4 b hb).imp id (fun h => by rw [hw3]; simpa using h))
          · have h3 : i = k := by omega
            dsimp only
            rw [if_neg h, h3]
            exact HNE.out.grown (by rw [hw3]; exact hg4) (fun b hb => (hsep4 b hb).imp id (fun h => by rw [hw3]; simpa using h))
      have HBN : Hid (Below w.heap.size w w4) := (bStep HBR.out HB3.out).grown (by rw [hw3]; exact hg4) (bStep HBR.out HB3.out).size (fun j hj => own_ge HTW.out.1 hj)
      clear hown4 hg4 hsep4
      go_wp2
      go_roundw
      case measure => simp [intOf]; omega
      case rel => exact ⟨k + 1, by go_num, hlt, HBN.out, HTN⟩
    · have hki : ¬ (k : Int) < (m : Int) := by omega
      have ek : m = k := by omega
      subst ek
      have HTW : Hid (TabO wr (.slice ol m cl) w.heap.size m F' L E) := hto
      have HBR : Hid (Below w.heap.size w wr) := hbr
      clear hto hbr HTO
      go_wp2
      go_ret
      exact ⟨⟨_, rfl, F', HTW.out⟩, HBR.out⟩
end Go.Proofs.YtfbfenljfdnggaaGreatDoor

