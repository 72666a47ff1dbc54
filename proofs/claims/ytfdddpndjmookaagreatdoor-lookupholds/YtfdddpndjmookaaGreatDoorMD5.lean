/- Where a list lies behind append: where it lay, or in a new block. No walk. -/
import Derived.Test.YtfdddpndjmookaaGreatDoorMD4
import Derived.Test.YtfdddpndjmookaaGreatDoorRX
import Derived.Test.YtfdddpndjmookaaGreatDoorL4
namespace Go.Proofs.YtfdddpndjmookaaGreatDoor
open Go.RowKit

theorem append_sep {P : Program} {w : World} {base : Nat} {t ty e : TypeId} {i : TypeInfo} {z : Value} {size bytes : Nat} (ht : P.underlying t = some (.slice e)) (hi : P.info? e = some i) (hz : i.zero = some z)
    (hsize : i.size = size) (hby : i.bytes = bytes) (hzs : z.cells.size = size) (hsz : 0 < size) {v : Value} {n : Nat} {xs : List Value} (hown : w.ownsRow base e size v n xs)
    {a : Addr} {m c : Nat} {news : List Value} (hl : news.length = m * size) (hnews : ∀ j u, news[j]? = some u → w.cell? (a.add j) = some u) (h1 : ∀ u ∈ news, u.oneCell' = true)
    (h63 : n + m ≤ maxLen) (hbytes : (n + m) * bytes ≤ 140737488355328) (hbase : base ≤ w.heap.size) {v' : Value} {w' : World}
    (hr : (Builtin.append_ #[t, t] ty #[v, .slice (some a) m c]).run P w = .ok v' w') : v'.ownBlock = v.ownBlock ∨ v'.ownBlock = some w.heap.size := by
  obtain ⟨v1, w1, hr1, _, _, h4⟩ := run_append_own (P := P) w base t ty e i z size bytes ht hi hz hsize hby hzs hsz v n xs hown a m c news hl hnews h1 h63 hbytes hbase
  rw [hr] at hr1
  cases hr1
  subst hsize
  subst hby
  have hsmall : n + m ≤ 9223372036854775807 := by simp only [maxLen] at h63; omega
  rcases hown.2 with ⟨rfl, rfl⟩ | ⟨g, cap, cur, rfl, _, hg, _, _, hcs, _⟩
  · by_cases hm : m = 0
    · rw [h4.mpr ⟨rfl, hm⟩]
      exact Or.inl rfl
    · have h := run_append_nil (P := P) w t ty e i z ht hi hz a m c news hl hnews (by omega) (by omega) (by have hb := hbytes; simp only [Nat.zero_add] at hb; omega)
      rw [hr] at h
      cases h
      exact Or.inr rfl
  · by_cases hroom : n + m ≤ cap
    · have hfit : n * i.size + news.length ≤ cur.size := by rw [hl, hcs, ← Nat.add_mul]; exact Nat.mul_le_mul_right _ hroom
      have h := run_append_room (P := P) w t ty e i ht hi g n cap cur hg a m c news hl hnews h1 hroom hfit
      rw [hr] at h
      cases h
      exact Or.inl rfl
    · have holds : ∀ j u, xs[j]? = some u → w.cell? ((⟨g, 0, none⟩ : Addr).add j) = some u := hown.cells (g := g) rfl
      have h := run_append_grow (P := P) w t ty e i z ht hi hz ⟨g, 0, none⟩ n cap xs hown.1 holds a m c news hl hnews (by omega) (by omega) (growslice_fits (by omega) hbytes)
      rw [hr] at h
      cases h
      exact Or.inr rfl
/-- append to a list of one's own, as an operation: with where it lies behind it. -/
theorem wp_append_sep {P : Program} (w : World) {o : Oper} {a : Act} {K : Act → World → Prop} {Q : Exit → Act → World → Prop} (s x : Operand) (t : TypeId)
    (ho : o.op = .call { callee := .builtin .append, args := #[s, x], argTypes := #[t, t] })
    (base : Nat) (e : TypeId) (i : TypeInfo) (z : Value) (size bytes : Nat) (ht : P.underlying t = some (.slice e)) (hi : P.info? e = some i) (hz : i.zero = some z)
    (hsize : i.size = size) (hby : i.bytes = bytes) (hzs : z.cells.size = size) (hsz : 0 < size)
    (v : Value) (n : Nat) (xs : List Value) (hs : a.eval s = v) (hown : w.ownsRow base e size v n xs)
    (ad : Addr) (m c : Nat) (news : List Value) (hx : a.eval x = .slice (some ad) m c) (hl : news.length = m * size) (hnews : ∀ j u, news[j]? = some u → w.cell? (ad.add j) = some u) (h1 : ∀ u ∈ news, u.oneCell' = true)
    (h63 : n + m ≤ maxLen) (hbytes : (n + m) * bytes ≤ 140737488355328) (hbase : base ≤ w.heap.size)
    (h : ∀ v' w', w'.ownsRow base e size v' (n + m) (xs ++ news) → w.grownBy w' v.ownBlock → (v'.ownBlock = v.ownBlock ∨ v'.ownBlock = some w.heap.size) → K (a.put o.dst v') w') : o.wp P a w K Q := by
  obtain ⟨v', w', hr, h2, h3, _⟩ := run_append_own (P := P) w base t o.type e i z size bytes ht hi hz hsize hby hzs hsz v n xs hown ad m c news hl hnews h1 h63 hbytes hbase
  have h5 := append_sep ht hi hz hsize hby hzs hsz hown hl hnews h1 h63 hbytes hbase hr
  have hk := h v' w' h2 h3 h5
  unfold Oper.wp execOp
  simp only [ho, resolve, invoke, builtin, Sem.run_bind, Sem.run_pure, Result.andThen_ok, List.map_toArray, List.map_cons, List.map_nil, hs, hx, hr]
  exact hk

end Go.Proofs.YtfdddpndjmookaaGreatDoor

/- append of one element; the reference's check, Points and Eval of layer 6. -/
namespace Go.Proofs.YtfdddpndjmookaaGreatDoor
open Go.RowKit

def put1 (f : Nat → Nat) (n y i : Nat) : Nat := if i < n then f i else y
theorem els_put (f : Nat → Nat) (n y : Nat) : els f n ++ els (fun _ => y) 1 = els (put1 f n y) (n + 1) := by
  rw [els_succ (put1 f n y), els_congr (g := f) (f := put1 f n y) (fun i hi => if_pos hi), show put1 f n y n = y from if_neg (Nat.lt_irrefl n)]
  rfl
theorem one_cells {w : World} {B y : Nat} (hB : Blk w 25 B (fun i => limb i y)) (j : Nat) (u : Value) (h : (els (fun _ => y) 1)[j]? = some u) : w.cell? ((⟨B, 0, none⟩ : Addr).add j) = some u := by
  obtain ⟨h1, h2, rfl⟩ := els_at (fun _ => y) 1 j u h
  have hadd : (⟨B, 0, none⟩ : Addr).add j = ⟨B, 0 + j, none⟩ := by unfold Addr.add; split <;> simp_all
  rw [hadd, Nat.zero_add, show j = j % 4 by omega]
  rw [Nat.mod_mod]
  exact hB.cell (j % 4) h2
/-- append in an undrawn region, with where the new list lies. -/
theorem wpList_append_sep {P : Program} (w : World) {ops : Array Oper} {rest : List Oper} {o : Oper} {a : Act} {Q : Exit → Act → World → Prop} (hgd : o.guard = none) (s x : Operand) (t : TypeId)
    (ho : o.op = .call { callee := .builtin .append, args := #[s, x], argTypes := #[t, t] })
    (base : Nat) (e : TypeId) (i : TypeInfo) (z : Value) (size bytes : Nat) (ht : P.underlying t = some (.slice e)) (hi : P.info? e = some i) (hz : i.zero = some z)
    (hsize : i.size = size) (hby : i.bytes = bytes) (hzs : z.cells.size = size) (hsz : 0 < size)
    (v : Value) (n : Nat) (xs : List Value) (hs : a.eval s = v) (hown : w.ownsRow base e size v n xs)
    (ad : Addr) (m c : Nat) (news : List Value) (hx : a.eval x = .slice (some ad) m c) (hl : news.length = m * size) (hnews : ∀ j u, news[j]? = some u → w.cell? (ad.add j) = some u) (h1 : ∀ u ∈ news, u.oneCell' = true)
    (h63 : n + m ≤ maxLen) (hbytes : (n + m) * bytes ≤ 140737488355328) (hbase : base ≤ w.heap.size)
    (h : ∀ v' w', w'.ownsRow base e size v' (n + m) (xs ++ news) → w.grownBy w' v.ownBlock → (v'.ownBlock = v.ownBlock ∨ v'.ownBlock = some w.heap.size) → wpList P ops Q rest (a.put o.dst v') w') : wpList P ops Q (o :: rest) a w :=
  wpList_plain hgd fun _ hK => wp_append_sep w s x t ho base e i z size bytes ht hi hz hsize hby hzs hsz v n xs hs hown ad m c news hx hl hnews h1 h63 hbytes hbase fun v' w' h2 h3 h4 => hK _ _ (h v' w' h2 h3 h4)
theorem sepE {v v' : Value} {w : World} (h : v'.ownBlock = v.ownBlock ∨ v'.ownBlock = some w.heap.size) : ∀ b, v'.ownBlock = some b → v.ownBlock = some b ∨ w.heap.size ≤ b := fun b hb => by
  rcases h with h | h
  · exact Or.inl (h ▸ hb)
  · rw [h] at hb
    cases hb
    exact Or.inr (Nat.le_refl _)
theorem wpList_appE1 (w : World) {ops : Array Oper} {rest : List Oper} {o : Oper} {a : Act} {Q : Exit → Act → World → Prop} (hgd : o.guard = none) (s x : Operand)
    (ho : o.op = .call { callee := .builtin .append, args := #[s, x], argTypes := #[22, 22] }) (base n B y : Nat) (v : Value) (f : Nat → Nat) (hs : a.eval s = v) (hown : w.ownsRow base 25 4 v n (els f n)) (hx : a.eval x = .slice (some ⟨B, 0, none⟩) 1 1) (hB : Blk w 25 B (fun i => limb i y)) (hn : n ≤ 100000) (hbase : base ≤ w.heap.size)
    (h : ∀ v' w', w'.ownsRow base 25 4 v' (n + 1) (els (put1 f n y) (n + 1)) → w.grownBy w' v.ownBlock → (∀ b, v'.ownBlock = some b → v.ownBlock = some b ∨ w.heap.size ≤ b) → wpList Tryz.prog ops Q rest (a.put o.dst v') w') : wpList Tryz.prog ops Q (o :: rest) a w := by
  obtain ⟨i0, hi, hz0, hz1, hz2⟩ := elemInfo
  refine wpList_append_sep w hgd s x 22 ho base 25 i0 _ 4 32 Tryz.underlying22 hi hz0 hz1 hz2 rfl (by decide) v n (els f n) hs hown ⟨B, 0, none⟩ 1 1 (els (fun _ => y) 1) hx (els_len _ _) (fun j u => one_cells hB j u) (els_one _ _) (by unfold maxLen; omega) (by omega) hbase ?_
  intro v' w' h1 h2 h3
  rw [els_put] at h1
  exact h v' w' h1 h2 (sepE h3)
theorem wp_appE1 (w : World) {o : Oper} {a : Act} {K : Act → World → Prop} {Q : Exit → Act → World → Prop} (s x : Operand)
    (ho : o.op = .call { callee := .builtin .append, args := #[s, x], argTypes := #[22, 22] }) (base n B y : Nat) (v : Value) (f : Nat → Nat) (hs : a.eval s = v) (hown : w.ownsRow base 25 4 v n (els f n)) (hx : a.eval x = .slice (some ⟨B, 0, none⟩) 1 1) (hB : Blk w 25 B (fun i => limb i y)) (hn : n ≤ 100000) (hbase : base ≤ w.heap.size)
    (h : ∀ v' w', w'.ownsRow base 25 4 v' (n + 1) (els (put1 f n y) (n + 1)) → w.grownBy w' v.ownBlock → (∀ b, v'.ownBlock = some b → v.ownBlock = some b ∨ w.heap.size ≤ b) → K (a.put o.dst v') w') : o.wp Tryz.prog a w K Q := by
  obtain ⟨i0, hi, hz0, hz1, hz2⟩ := elemInfo
  refine wp_append_sep w s x 22 ho base 25 i0 _ 4 32 Tryz.underlying22 hi hz0 hz1 hz2 rfl (by decide) v n (els f n) hs hown ⟨B, 0, none⟩ 1 1 (els (fun _ => y) 1) hx (els_len _ _) (fun j u => one_cells hB j u) (els_one _ _) (by unfold maxLen; omega) (by omega) hbase ?_
  intro v' w' h1 h2 h3
  rw [els_put] at h1
  exact h v' w' h1 h2 (sepE h3)
theorem Blk.grown {w w' : World} {t : TypeId} {b : Nat} {f : Nat → Nat} {row : Option Nat} (h : Blk w t b f) (hg : w.grownBy w' row) (hne : row ≠ some b) : Blk w' t b f := by
  have hl := h.lt
  unfold Blk at h ⊢
  rw [hg.block b hl (fun e => hne e.symm)]
  exact h
theorem own_newE (w : World) : (w.alloc (.cells #[] 25)).ownsRow w.heap.size 25 4 (.slice (some ⟨w.heap.size, 0, none⟩) 0 0) 0 [] :=
  ⟨by simp, Or.inr ⟨w.heap.size, 0, #[], rfl, Nat.le_refl _, new_blockE _ _, Nat.le_refl _, by decide, by simp, by simp⟩⟩
theorem own_baseE {w : World} {m base n : Nat} {v : Value} {xs : List Value} (h : w.ownsRow m 25 4 v n xs) (hm : base ≤ m) : w.ownsRow base 25 4 v n xs := by
  refine ⟨h.1, ?_⟩
  rcases h.2 with hn | ⟨g, cap, cur, hL, hb, rest⟩
  · exact Or.inl hn
  · exact Or.inr ⟨g, cap, cur, hL, Nat.le_trans hm hb, rest⟩
theorem own_keepE {w w' : World} {base n : Nat} {v : Value} {xs : List Value} (h : w.ownsRow base 25 4 v n xs) (hb : ∀ b, v.ownBlock = some b → w'.heap[b]? = w.heap[b]?) : w'.ownsRow base 25 4 v n xs := by
  refine ⟨h.1, ?_⟩
  rcases h.2 with hn | ⟨g, cap, cur, hL, hbs, hg, rest⟩
  · exact Or.inl hn
  · refine Or.inr ⟨g, cap, cur, hL, hbs, ?_, rest⟩
    rw [hb g (by rw [hL]; rfl)]
    exact hg
theorem own_ltE {w : World} {base n : Nat} {v : Value} {xs : List Value} (h : w.ownsRow base 25 4 v n xs) (b : Nat) (hb : v.ownBlock = some b) : base ≤ b ∧ b < w.heap.size := by
  rcases h.2 with ⟨hn, _⟩ | ⟨g, cap, cur, hL, hbs, hg, rest⟩
  · rw [hn] at hb; cases hb
  · rw [hL] at hb
    cases hb
    exact ⟨hbs, (Array.getElem?_eq_some_iff.1 hg).1⟩
end Go.Proofs.YtfdddpndjmookaaGreatDoor

/- the reference's Values of layer 6. -/
namespace Go.Proofs.YtfdddpndjmookaaGreatDoor
open Go.RowKit

end Go.Proofs.YtfdddpndjmookaaGreatDoor

/- the reference's Coeffs of layer 6. -/
namespace Go.Proofs.YtfdddpndjmookaaGreatDoor
open Go.RowKit

theorem invU_ok {m a : Nat} (hp : IsPrime m) (ha : a % m ≠ 0) : invU m a * a % m = 1 := by
  have h2 := hp.1
  unfold invU
  rw [powM_more, show m - 2 + 1 = m - 1 from by omega]
  exact fermat_one hp ha
theorem intP_nat {s N : Nat} (h : N < modN s) (h6 : N < 18446744073709551616) : intP s (N : Int) = N := by
  unfold intP intW
  rw [if_neg (by omega), if_neg (by omega)]
  have : ((N : Int) % 18446744073709551616).toNat = N := by omega
  rw [this, Nat.mod_eq_of_lt h]
theorem cell_sam {w w' : World} {b : Nat} (e : w'.heap[b]? = w.heap[b]?) (o : Nat) : w'.cell? ⟨b, o, none⟩ = w.cell? ⟨b, o, none⟩ := by simp [World.cell?, e]
/-- What Coeffs answers, over any inverses. -/
def CoE (s k x n y : Nat) (f : Nat → Nat) (e : Ending) (m : Nat) (w' : World) : Prop :=
  y = 0 ∧ e = .returned (.tuple #[.slice none 0 0, .int .i64 10]) ∨ y ≠ 0 ∧ n ≠ 2 ^ k ∧ e = .returned (.tuple #[.slice none 0 0, .int .i64 50]) ∨ y ≠ 0 ∧ n = 2 ^ k ∧ ∃ v F, e = .returned (.tuple #[v, .int .i64 0]) ∧ w'.ownsRow m 25 4 v (2 ^ k) (els F (2 ^ k)) ∧ CoP s k x f F
end Go.Proofs.YtfdddpndjmookaaGreatDoor

