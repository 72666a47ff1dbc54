/- append of one element and where it lies; the reference's Eval of layer 6. -/
import Derived.Test.YtfjdnlcfhgamfaaDoorPB8
import Derived.Test.YtfjdnlcfhgamfaaDoorFZ

namespace Go.Proofs.YtfjdnlcfhgamfaaDoor
open Go.RowKit

theorem append_sep {P : Program} {w : World} {base : Nat} {t ty e : TypeId} {i : TypeInfo} {z : Value} {size bytes : Nat} (ht : P.underlying t = some (.slice e)) (hi : P.info? e = some i) (hz : i.zero = some z)
    (hsize : i.size = size) (hby : i.bytes = bytes) (hzs : z.cells.size = size) (hsz : 0 < size) {v : Value} {n : Nat} {xs : List Value} (hown : w.ownsRow base e size v n xs)
    {a : Addr} {m c : Nat} {news : List Value} (hl : news.length = m * size) (hnews : ∀ j u, news[j]? = some u → w.cell? (a.add j) = some u) (h1 : ∀ u ∈ news, u.oneCell' = true)
    (h63 : n + m ≤ maxLen) (hbytes : (n + m) * bytes ≤ 140737488355328) (hbase : base ≤ w.heap.size) {v' : Value} {w' : World}
    (hr : (Builtin.append_ #[t, t] ty #[v, .slice (some a) m c]).run P w = .ok v' w') : v'.ownBlock = v.ownBlock ∨ v'.ownBlock = some w.heap.size := by
  obtain ⟨v1, w1, hr1, _, _, h4⟩ := run_append_own (P := P) w base t ty e i z size bytes ht hi hz hsize hby hzs hsz v n xs hown a m c news hl hnews h1 h63 hbytes hbase
  rw [hr] at hr1
  cases hr1
  subst hsize
  subst hby
  have hsmall : n + m ≤ 9223372036854775807 := by simp only [maxLen] at h63; omega
  rcases hown.2 with ⟨rfl, rfl⟩ | ⟨g, cap, cur, rfl, _, hg, _, _, hcs, _⟩
  · by_cases hm : m = 0
    · rw [h4.mpr ⟨rfl, hm⟩]
      exact Or.inl rfl
    · have h := run_append_nil (P := P) w t ty e i z ht hi hz a m c news hl hnews (by omega) (by omega) (by have hb := hbytes; simp only [Nat.zero_add] at hb; omega)
      rw [hr] at h
      cases h
      exact Or.inr rfl
  · by_cases hroom : n + m ≤ cap
    · have hfit : n * i.size + news.length ≤ cur.size := by rw [hl, hcs, ← Nat.add_mul]; exact Nat.mul_le_mul_right _ hroom
      have h := run_append_room (P := P) w t ty e i ht hi g n cap cur hg a m c news hl hnews h1 hroom hfit
      rw [hr] at h
      cases h
      exact Or.inl rfl
    · have holds : ∀ j u, xs[j]? = some u → w.cell? ((⟨g, 0, none⟩ : Addr).add j) = some u := hown.cells (g := g) rfl
      have h := run_append_grow (P := P) w t ty e i z ht hi hz ⟨g, 0, none⟩ n cap xs hown.1 holds a m c news hl hnews (by omega) (by omega) (growslice_fits (by omega) hbytes)
      rw [hr] at h
      cases h
      exact Or.inr rfl
/-- append to a list of one's own, as an operation: with where it lies behind it. -/
theorem wp_append_sep {P : Program} (w : World) {o : Oper} {a : Act} {K : Act → World → Prop} {Q : Exit → Act → World → Prop} (s x : Operand) (t : TypeId)
    (ho : o.op = .call { callee := .builtin .append, args := #[s, x], argTypes := #[t, t] })
    (base : Nat) (e : TypeId) (i : TypeInfo) (z : Value) (size bytes : Nat) (ht : P.underlying t = some (.slice e)) (hi : P.info? e = some i) (hz : i.zero = some z)
    (hsize : i.size = size) (hby : i.bytes = bytes) (hzs : z.cells.size = size) (hsz : 0 < size)
    (v : Value) (n : Nat) (xs : List Value) (hs : a.eval s = v) (hown : w.ownsRow base e size v n xs)
    (ad : Addr) (m c : Nat) (news : List Value) (hx : a.eval x = .slice (some ad) m c) (hl : news.length = m * size) (hnews : ∀ j u, news[j]? = some u → w.cell? (ad.add j) = some u) (h1 : ∀ u ∈ news, u.oneCell' = true)
    (h63 : n + m ≤ maxLen) (hbytes : (n + m) * bytes ≤ 140737488355328) (hbase : base ≤ w.heap.size)
    (h : ∀ v' w', w'.ownsRow base e size v' (n + m) (xs ++ news) → w.grownBy w' v.ownBlock → (v'.ownBlock = v.ownBlock ∨ v'.ownBlock = some w.heap.size) → K (a.put o.dst v') w') : o.wp P a w K Q := by
  obtain ⟨v', w', hr, h2, h3, _⟩ := run_append_own (P := P) w base t o.type e i z size bytes ht hi hz hsize hby hzs hsz v n xs hown ad m c news hl hnews h1 h63 hbytes hbase
  have h5 := append_sep ht hi hz hsize hby hzs hsz hown hl hnews h1 h63 hbytes hbase hr
  have hk := h v' w' h2 h3 h5
  unfold Oper.wp execOp
  simp only [ho, resolve, invoke, builtin, Sem.run_bind, Sem.run_pure, Result.andThen_ok, List.map_toArray, List.map_cons, List.map_nil, hs, hx, hr]
  exact hk

def put1 (f : Nat → Nat) (n y i : Nat) : Nat := if i < n then f i else y
theorem els_put (f : Nat → Nat) (n y : Nat) : els f n ++ els (fun _ => y) 1 = els (put1 f n y) (n + 1) := by
  rw [els_succ (put1 f n y), els_congr (g := f) (f := put1 f n y) (fun i hi => if_pos hi), show put1 f n y n = y from if_neg (Nat.lt_irrefl n)]
  rfl
theorem one_cells {w : World} {B y : Nat} (hB : Blk w 25 B (fun i => limb i y)) (j : Nat) (u : Value) (h : (els (fun _ => y) 1)[j]? = some u) : w.cell? ((⟨B, 0, none⟩ : Addr).add j) = some u := by
  obtain ⟨h1, h2, rfl⟩ := els_at (fun _ => y) 1 j u h
  have hadd : (⟨B, 0, none⟩ : Addr).add j = ⟨B, 0 + j, none⟩ := by unfold Addr.add; split <;> simp_all
  rw [hadd, Nat.zero_add, show j = j % 4 by omega]
  rw [Nat.mod_mod]
  exact hB.cell (j % 4) h2
/-- append in an undrawn region, with where the new list lies. -/
theorem wpList_append_sep {P : Program} (w : World) {ops : Array Oper} {rest : List Oper} {o : Oper} {a : Act} {Q : Exit → Act → World → Prop} (hgd : o.guard = none) (s x : Operand) (t : TypeId)
    (ho : o.op = .call { callee := .builtin .append, args := #[s, x], argTypes := #[t, t] })
    (base : Nat) (e : TypeId) (i : TypeInfo) (z : Value) (size bytes : Nat) (ht : P.underlying t = some (.slice e)) (hi : P.info? e = some i) (hz : i.zero = some z)
    (hsize : i.size = size) (hby : i.bytes = bytes) (hzs : z.cells.size = size) (hsz : 0 < size)
    (v : Value) (n : Nat) (xs : List Value) (hs : a.eval s = v) (hown : w.ownsRow base e size v n xs)
    (ad : Addr) (m c : Nat) (news : List Value) (hx : a.eval x = .slice (some ad) m c) (hl : news.length = m * size) (hnews : ∀ j u, news[j]? = some u → w.cell? (ad.add j) = some u) (h1 : ∀ u ∈ news, u.oneCell' = true)
    (h63 : n + m ≤ maxLen) (hbytes : (n + m) * bytes ≤ 140737488355328) (hbase : base ≤ w.heap.size)
    (h : ∀ v' w', w'.ownsRow base e size v' (n + m) (xs ++ news) → w.grownBy w' v.ownBlock → (v'.ownBlock = v.ownBlock ∨ v'.ownBlock = some w.heap.size) → wpList P ops Q rest (a.put o.dst v') w') : wpList P ops Q (o :: rest) a w :=
  wpList_plain hgd fun _ hK => wp_append_sep w s x t ho base e i z size bytes ht hi hz hsize hby hzs hsz v n xs hs hown ad m c news hx hl hnews h1 h63 hbytes hbase fun v' w' h2 h3 h4 => hK _ _ (h v' w' h2 h3 h4)
theorem sepE {v v' : Value} {w : World} (h : v'.ownBlock = v.ownBlock ∨ v'.ownBlock = some w.heap.size) : ∀ b, v'.ownBlock = some b → v.ownBlock = some b ∨ w.heap.size ≤ b := fun b hb => by
  rcases h with h | h
  · exact Or.inl (h ▸ hb)
  · rw [h] at hb
    cases hb
    exact Or.inr (Nat.le_refl _)
theorem wpList_appE1 (w : World) {ops : Array Oper} {rest : List Oper} {o : Oper} {a : Act} {Q : Exit → Act → World → Prop} (hgd : o.guard = none) (s x : Operand)
    (ho : o.op = .call { callee := .builtin .append, args := #[s, x], argTypes := #[22, 22] }) (base n B y : Nat) (v : Value) (f : Nat → Nat) (hs : a.eval s = v) (hown : w.ownsRow base 25 4 v n (els f n)) (hx : a.eval x = .slice (some ⟨B, 0, none⟩) 1 1) (hB : Blk w 25 B (fun i => limb i y)) (hn : n ≤ 100000) (hbase : base ≤ w.heap.size)
    (h : ∀ v' w', w'.ownsRow base 25 4 v' (n + 1) (els (put1 f n y) (n + 1)) → w.grownBy w' v.ownBlock → (∀ b, v'.ownBlock = some b → v.ownBlock = some b ∨ w.heap.size ≤ b) → wpList Tryd.prog ops Q rest (a.put o.dst v') w') : wpList Tryd.prog ops Q (o :: rest) a w := by
  obtain ⟨i0, hi, hz0, hz1, hz2⟩ := elemInfo
  refine wpList_append_sep w hgd s x 22 ho base 25 i0 _ 4 32 Tryd.underlying22 hi hz0 hz1 hz2 rfl (by decide) v n (els f n) hs hown ⟨B, 0, none⟩ 1 1 (els (fun _ => y) 1) hx (els_len _ _) (fun j u => one_cells hB j u) (els_one _ _) (by unfold maxLen; omega) (by omega) hbase ?_
  intro v' w' h1 h2 h3
  rw [els_put] at h1
  exact h v' w' h1 h2 (sepE h3)
theorem wp_appE1 (w : World) {o : Oper} {a : Act} {K : Act → World → Prop} {Q : Exit → Act → World → Prop} (s x : Operand)
    (ho : o.op = .call { callee := .builtin .append, args := #[s, x], argTypes := #[22, 22] }) (base n B y : Nat) (v : Value) (f : Nat → Nat) (hs : a.eval s = v) (hown : w.ownsRow base 25 4 v n (els f n)) (hx : a.eval x = .slice (some ⟨B, 0, none⟩) 1 1) (hB : Blk w 25 B (fun i => limb i y)) (hn : n ≤ 100000) (hbase : base ≤ w.heap.size)
    (h : ∀ v' w', w'.ownsRow base 25 4 v' (n + 1) (els (put1 f n y) (n + 1)) → w.grownBy w' v.ownBlock → (∀ b, v'.ownBlock = some b → v.ownBlock = some b ∨ w.heap.size ≤ b) → K (a.put o.dst v') w') : o.wp Tryd.prog a w K Q := by
  obtain ⟨i0, hi, hz0, hz1, hz2⟩ := elemInfo
  refine wp_append_sep w s x 22 ho base 25 i0 _ 4 32 Tryd.underlying22 hi hz0 hz1 hz2 rfl (by decide) v n (els f n) hs hown ⟨B, 0, none⟩ 1 1 (els (fun _ => y) 1) hx (els_len _ _) (fun j u => one_cells hB j u) (els_one _ _) (by unfold maxLen; omega) (by omega) hbase ?_
  intro v' w' h1 h2 h3
  rw [els_put] at h1
  exact h v' w' h1 h2 (sepE h3)
theorem Blk.grown {w w' : World} {t : TypeId} {b : Nat} {f : Nat → Nat} {row : Option Nat} (h : Blk w t b f) (hg : w.grownBy w' row) (hne : row ≠ some b) : Blk w' t b f := by
  have hl := h.lt
  unfold Blk at h ⊢
  rw [hg.block b hl (fun e => hne e.symm)]
  exact h
theorem own_newE (w : World) : (w.alloc (.cells #[] 25)).ownsRow w.heap.size 25 4 (.slice (some ⟨w.heap.size, 0, none⟩) 0 0) 0 [] :=
  ⟨by simp, Or.inr ⟨w.heap.size, 0, #[], rfl, Nat.le_refl _, new_blockE _ _, Nat.le_refl _, by decide, by simp, by simp⟩⟩
theorem own_baseE {w : World} {m base n : Nat} {v : Value} {xs : List Value} (h : w.ownsRow m 25 4 v n xs) (hm : base ≤ m) : w.ownsRow base 25 4 v n xs := by
  refine ⟨h.1, ?_⟩
  rcases h.2 with hn | ⟨g, cap, cur, hL, hb, rest⟩
  · exact Or.inl hn
  · exact Or.inr ⟨g, cap, cur, hL, Nat.le_trans hm hb, rest⟩
theorem own_keepE {w w' : World} {base n : Nat} {v : Value} {xs : List Value} (h : w.ownsRow base 25 4 v n xs) (hb : ∀ b, v.ownBlock = some b → w'.heap[b]? = w.heap[b]?) : w'.ownsRow base 25 4 v n xs := by
  refine ⟨h.1, ?_⟩
  rcases h.2 with hn | ⟨g, cap, cur, hL, hbs, hg, rest⟩
  · exact Or.inl hn
  · refine Or.inr ⟨g, cap, cur, hL, hbs, ?_, rest⟩
    rw [hb g (by rw [hL]; rfl)]
    exact hg
theorem own_ltE {w : World} {base n : Nat} {v : Value} {xs : List Value} (h : w.ownsRow base 25 4 v n xs) (b : Nat) (hb : v.ownBlock = some b) : base ≤ b ∧ b < w.heap.size := by
  rcases h.2 with ⟨hn, _⟩ | ⟨g, cap, cur, hL, hbs, hg, rest⟩
  · rw [hn] at hb; cases hb
  · rw [hL] at hb
    cases hb
    exact ⟨hbs, (Array.getElem?_eq_some_iff.1 hg).1⟩
set_option maxHeartbeats 8000000 in
set_option maxRecDepth 20000 in
theorem rEval_in (s n cn x : Nat) (oa : Option Addr) (f : Nat → Nat) (hs : s < 4) (hx : x < 115792089237316195423570985008687907853269984665640564039457584007913129639936) (hn : n ≤ 100000) (hf : ∀ i, i < n → f i < 115792089237316195423570985008687907853269984665640564039457584007913129639936) (w : World) (hv : Es w (.slice oa n cn) n f) :
    Calls Tryd.prog 40 #[.int .i64 (s : Int), .slice oa n cn, .agg #[.int .u64 ((limb 0 (x) : Nat) : Int), .int .u64 ((limb 1 (x) : Nat) : Int), .int .u64 ((limb 2 (x) : Nat) : Int), .int .u64 ((limb 3 (x) : Nat) : Int)]] w fun e w' => (∃ y, e = .returned (.agg #[.int .u64 ((limb 0 (y) : Nat) : Int), .int .u64 ((limb 1 (y) : Nat) : Int), .int .u64 ((limb 2 (y) : Nat) : Int), .int .u64 ((limb 3 (y) : Nat) : Int)]) ∧ (y < modN s ∨ y = 0) ∧ fz s y = pf (fz s x) n (fun j => fz s (f j))) ∧ Below w.heap.size w w' := by
  have HV : Hid (Es w (.slice oa n cn) n f) := hv
  have HFM : Hid (∀ i, i < n → f i < 115792089237316195423570985008687907853269984665640564039457584007913129639936) := hf
  have HXM : Hid (x < 115792089237316195423570985008687907853269984665640564039457584007913129639936) := hx
  have HMM : Hid (∀ a b, a < 115792089237316195423570985008687907853269984665640564039457584007913129639936 → b < 115792089237316195423570985008687907853269984665640564039457584007913129639936 → ∀ w, Calls Tryd.prog 38 #[.int .i64 (s : Int), .agg #[.int .u64 ((limb 0 (a) : Nat) : Int), .int .u64 ((limb 1 (a) : Nat) : Int), .int .u64 ((limb 2 (a) : Nat) : Int), .int .u64 ((limb 3 (a) : Nat) : Int)], .agg #[.int .u64 ((limb 0 (b) : Nat) : Int), .int .u64 ((limb 1 (b) : Nat) : Int), .int .u64 ((limb 2 (b) : Nat) : Int), .int .u64 ((limb 3 (b) : Nat) : Int)]] w fun e w' => e = .returned (.agg #[.int .u64 ((limb 0 (mulP s a b) : Nat) : Int), .int .u64 ((limb 1 (mulP s a b) : Nat) : Int), .int .u64 ((limb 2 (mulP s a b) : Nat) : Int), .int .u64 ((limb 3 (mulP s a b) : Nat) : Int)]) ∧ Below w.heap.size w w') := fun a b ha hb w => ref2Mul_any s a b hs ha hb w
  have HAA : Hid (∀ a b, a < 115792089237316195423570985008687907853269984665640564039457584007913129639936 → b < 115792089237316195423570985008687907853269984665640564039457584007913129639936 → ∀ w, Calls Tryd.prog 37 #[.int .i64 (s : Int), .agg #[.int .u64 ((limb 0 (a) : Nat) : Int), .int .u64 ((limb 1 (a) : Nat) : Int), .int .u64 ((limb 2 (a) : Nat) : Int), .int .u64 ((limb 3 (a) : Nat) : Int)], .agg #[.int .u64 ((limb 0 (b) : Nat) : Int), .int .u64 ((limb 1 (b) : Nat) : Int), .int .u64 ((limb 2 (b) : Nat) : Int), .int .u64 ((limb 3 (b) : Nat) : Int)]] w fun e w' => e = .returned (.agg #[.int .u64 ((limb 0 (addP s a b) : Nat) : Int), .int .u64 ((limb 1 (addP s a b) : Nat) : Int), .int .u64 ((limb 2 (addP s a b) : Nat) : Int), .int .u64 ((limb 3 (addP s a b) : Nat) : Int)]) ∧ Below w.heap.size w w') := fun a b ha hb w => ref2Add_any s a b hs ha hb w
  clear hv hf hx
  go_enter Tryd.func40, Tryd.ntmps40
  go_upto_region 2 with fail
  obtain ⟨w0, hw0⟩ : ∃ z : World, z = ((w.alloc (.cells #[.int .u64 ((limb 0 (x) : Nat) : Int), .int .u64 ((limb 1 (x) : Nat) : Int), .int .u64 ((limb 2 (x) : Nat) : Int), .int .u64 ((limb 3 (x) : Nat) : Int)] 25)).alloc (.cells #[.int .u64 0, .int .u64 0, .int .u64 0, .int .u64 0] 25)).alloc (.cells #[.int .u64 0, .int .u64 0, .int .u64 0, .int .u64 0] 25) := ⟨_, rfl⟩
  obtain ⟨N5, e5⟩ : ∃ z, z = w.heap.size := ⟨_, rfl⟩
  obtain ⟨N6, e6⟩ : ∃ z, z = N5 + 1 := ⟨_, rfl⟩
  obtain ⟨N7, e7⟩ : ∃ z, z = N6 + 1 := ⟨_, rfl⟩
  have bx0 : Blk w0 25 N5 (fun i => limb i x) := by rw [hw0]; exact ((Blk.newAt _ _ _ (fun i => limb i x) e5).alloc _).alloc _
  have br0 : Blk w0 25 N6 (fun _ => 0) := by rw [hw0]; exact (Blk.newAt _ _ _ (fun _ => 0) (by rw [e6, e5]; simp)).alloc _
  have bo0 : Blk w0 25 N7 (fun i => limb i 0) := by rw [hw0]; exact (Blk.newAt _ _ _ (fun _ => 0) (by rw [e7, e6, e5]; simp)).congr (fun i _ => limb_zero i)
  have hb0 : Below w.heap.size w w0 := by rw [hw0]; exact bAlloc (bAlloc (bAlloc (Below.refl _ _) _) _) _
  rw [← hw0, ← e5, ← e6, ← e7]
  have n57 : N5 ≠ N7 := by omega
  have n67 : N6 ≠ N7 := by omega
  have n65 : N6 ≠ N5 := by omega
  have l7 : w.heap.size ≤ N7 := by omega
  have l6 : w.heap.size ≤ N6 := by omega
  clear hw0 e5 e6 e7
  go_wp2
  go_loopw [8] (fun iv wr => ∃ (i o : Nat), iv = .int .i64 ((i : Int) - 1) ∧ i ≤ n ∧ Below w.heap.size w wr ∧ Blk wr 25 N5 (fun i => limb i x) ∧ Blk wr 25 N6 (fun _ => 0) ∧ Blk wr 25 N7 (fun i => limb i o) ∧ Hid (o < modN s ∧ fz s o = pf (fz s x) (n - i) (fun j => fz s (f (i + j))))) (fun iv _ => (intOf iv + 1).toNat)
  case atStart => exact ⟨n, 0, rfl, Nat.le_refl _, hb0, bx0, br0, bo0, modN_pos s, by rw [Nat.sub_self]; rfl⟩
  case round =>
    obtain ⟨i1, o, rfl, hi, hbr, bx, brr, bo, HI⟩ := hrel
    clear hb0 bx0 br0 bo0
    by_cases hlt : 0 < i1
    · obtain ⟨i, rfl⟩ : ∃ i, i1 = i + 1 := ⟨i1 - 1, by omega⟩
      have hdi : ((i + 1 : Nat) : Int) - 1 = (i : Int) := by omega
      rw [hdi]
      have hi0 : (0 : Int) ≤ (i : Int) := by omega
      have hin : (i : Int) < (n : Int) := by omega
      rcases HV.out with ⟨_, h0⟩ | ⟨ab, ao, c, hv, _, _, lab, hcell⟩
      · omega
      · cases hv
        have fim := HFM.out i (by omega)
        have hN := HI.out
        obtain ⟨fi, efi⟩ : ∃ z, z = f i := ⟨_, rfl⟩
        rw [← efi] at fim
        have M1 := HMM.out o x (lt_M s _ hN.1) HXM.out
        obtain ⟨m, em⟩ : ∃ z, z = mulP s o x := ⟨_, rfl⟩
        have A1 := HAA.out m fi (by rw [em]; exact mulP_M _ _ _) fim
        rw [← em] at M1
        obtain ⟨o1, eo⟩ : ∃ z, z = addP s m fi := ⟨_, rfl⟩
        rw [← eo] at A1
        have HMU : Hid (∀ w, _) := M1
        have HAD : Hid (∀ w, _) := A1
        have HNX : Hid (o1 < modN s ∧ fz s o1 = pf (fz s x) (n - i) (fun j => fz s (f (i + j)))) := by
          refine ⟨by rw [eo]; exact addP_lt _ _ _, ?_⟩
          rw [show n - i = (n - (i + 1)) + 1 by omega]
          show _ = pf (fz s x) (n - (i + 1)) (fun j => fz s (f (i + (j + 1)))) * fz s x + fz s (f (i + 0))
          rw [eo, fz_add, em, fz_mul, hN.2, Nat.add_zero i, efi, pf_congr _ _ (f := fun j => fz s (f (i + 1 + j))) (g := fun j => fz s (f (i + (j + 1)))) (fun j _ => by rw [show i + 1 + j = i + (j + 1) by omega])]
        have HCF : Hid (∀ w', Below wr.heap.size wr w' → w'.cell? ⟨ab, (ao + i * 4), none⟩ = some (.int .u64 ((limb 0 fi : Nat) : Int)) ∧ w'.cell? ⟨ab, (ao + i * 4) + 1, none⟩ = some (.int .u64 ((limb 1 fi : Nat) : Int)) ∧ w'.cell? ⟨ab, (ao + i * 4) + 2, none⟩ = some (.int .u64 ((limb 2 fi : Nat) : Int)) ∧ w'.cell? ⟨ab, (ao + i * 4) + 3, none⟩ = some (.int .u64 ((limb 3 fi : Nat) : Int))) := fun w' hb => by
          have hbb : Below w.heap.size w w' := bStep hbr hb
          have c0 := hcell i (by omega) 0 (by decide); have c1 := hcell i (by omega) 1 (by decide); have c2 := hcell i (by omega) 2 (by decide); have c3 := hcell i (by omega) 3 (by decide)
          rw [← efi] at c0 c1 c2 c3
          exact ⟨(hbb.cell (p := ⟨ab, ao + i * 4 + 0, none⟩) lab).trans c0, (hbb.cell (p := ⟨ab, ao + i * 4 + 1, none⟩) lab).trans c1, (hbb.cell (p := ⟨ab, ao + i * 4 + 2, none⟩) lab).trans c2, (hbb.cell (p := ⟨ab, ao + i * 4 + 3, none⟩) lab).trans c3⟩
        clear M1 A1 em eo efi fim hN HI hcell
        go_upto_region 5 with fail
        refine wp_region_Z (fun w' => Below wr.heap.size wr w' ∧ Blk w' 25 N7 (fun i => limb i o) ∧ Blk w' 25 N5 (fun i => limb i x)) 10 (by kernel_rfl) ?_
        obtain ⟨wD, hD⟩ : ∃ x : World, x = wr.drew := ⟨_, rfl⟩
        rw [← hD]
        have hp0_0 : Below wr.heap.size wr wD := by rw [hD]; exact (Below.refl _ _).drew
        have hp1_0 : Blk wD 25 N7 (fun i => limb i o) := by rw [hD]; exact bo.drew
        have hp2_0 : Blk wD 25 N5 (fun i => limb i x) := by rw [hD]; exact bx.drew
        have hlow0 : Below wr.heap.size wr wD := by rw [hD]; exact (Below.refl _ _).drew
        clear hD
        refine wpZ_take (i := 0) (v := .int .i64 (s : Int)) 17 rfl rfl (by kernel_rfl) (by kernel_rfl) (by kernel_rfl) (Or.inl (by kernel_rfl)) (fun _ _ _ h => h) (Or.inl ⟨by rfl, fun w hSw => by go_simp⟩) ⟨hp0_0, hp1_0, hp2_0⟩ ?_
        simp only [Act.put, List.setIfInBounds_toArray]
        dsimp only [List.set_cons_zero, List.set_cons_succ]
        refine wpZ_take (i := 1) (v := .int .i64 (s : Int)) 18 rfl rfl (by kernel_rfl) (by kernel_rfl) (by kernel_rfl) (Or.inl (by kernel_rfl)) (fun _ _ _ h => h) (Or.inl ⟨by rfl, fun w hSw => by go_simp⟩) ⟨hp0_0, hp1_0, hp2_0⟩ ?_
        simp only [Act.put, List.setIfInBounds_toArray]
        dsimp only [List.set_cons_zero, List.set_cons_succ]
        refine wpZ_take (i := 2) (v := .agg #[.int .u64 ((limb 0 (o) : Nat) : Int), .int .u64 ((limb 1 (o) : Nat) : Int), .int .u64 ((limb 2 (o) : Nat) : Int), .int .u64 ((limb 3 (o) : Nat) : Int)]) 19 rfl rfl (by kernel_rfl) (by kernel_rfl) (by kernel_rfl) (Or.inl (by kernel_rfl)) (fun _ _ _ h => h) (Or.inl ⟨by rfl, fun w hSw => by (have qq := (hSw.2.1).cell; clear hSw; go_simp)⟩) ⟨hp0_0, hp1_0, hp2_0⟩ ?_
        simp only [Act.put, List.setIfInBounds_toArray]
        dsimp only [List.set_cons_zero, List.set_cons_succ]
        refine wpZ_take (i := 3) (v := .agg #[.int .u64 ((limb 0 (x) : Nat) : Int), .int .u64 ((limb 1 (x) : Nat) : Int), .int .u64 ((limb 2 (x) : Nat) : Int), .int .u64 ((limb 3 (x) : Nat) : Int)]) 20 rfl rfl (by kernel_rfl) (by kernel_rfl) (by kernel_rfl) (Or.inl (by kernel_rfl)) (fun _ _ _ h => h) (Or.inl ⟨by rfl, fun w hSw => by (have qq := (hSw.2.2).cell; clear hSw; go_simp)⟩) ⟨hp0_0, hp1_0, hp2_0⟩ ?_
        simp only [Act.put, List.setIfInBounds_toArray]
        dsimp only [List.set_cons_zero, List.set_cons_succ]
        refine wpZ_take (i := 5) (v := .slice (some ⟨ab, ao, none⟩) n cn) 22 rfl rfl (by kernel_rfl) (by kernel_rfl) (by kernel_rfl) (Or.inl (by kernel_rfl)) (fun _ _ _ h => h) (Or.inl ⟨by rfl, fun w hSw => by go_simp⟩) ⟨hp0_0, hp1_0, hp2_0⟩ ?_
        simp only [Act.put, List.setIfInBounds_toArray]
        dsimp only [List.set_cons_zero, List.set_cons_succ]
        refine wpZ_take (i := 6) (v := .int .i64 (i : Int)) 23 rfl rfl (by kernel_rfl) (by kernel_rfl) (by kernel_rfl) (Or.inl (by kernel_rfl)) (fun _ _ _ h => h) (Or.inl ⟨by rfl, fun w hSw => by go_simp⟩) ⟨hp0_0, hp1_0, hp2_0⟩ ?_
        simp only [Act.put, List.setIfInBounds_toArray]
        dsimp only [List.set_cons_zero, List.set_cons_succ]
        refine wpZ_take (i := 7) (v := .pointer (some ⟨ab, (ao + i * 4), none⟩)) 24 rfl rfl (by kernel_rfl) (by kernel_rfl) (by kernel_rfl) (Or.inl (by kernel_rfl)) (fun _ _ _ h => h) (Or.inl ⟨by rfl, fun w hSw => by go_simp⟩) ⟨hp0_0, hp1_0, hp2_0⟩ ?_
        simp only [Act.put, List.setIfInBounds_toArray]
        dsimp only [List.set_cons_zero, List.set_cons_succ]
        refine wpZ_take (i := 8) (v := .agg #[.int .u64 ((limb 0 (fi) : Nat) : Int), .int .u64 ((limb 1 (fi) : Nat) : Int), .int .u64 ((limb 2 (fi) : Nat) : Int), .int .u64 ((limb 3 (fi) : Nat) : Int)]) 25 rfl rfl (by kernel_rfl) (by kernel_rfl) (by kernel_rfl) (Or.inl (by kernel_rfl)) (fun _ _ _ h => h) (Or.inl ⟨by rfl, fun w hSw => by (obtain ⟨q0, q1, q2, q3⟩ := HCF.out w hSw.1; clear hSw; go_simp)⟩) ⟨hp0_0, hp1_0, hp2_0⟩ ?_
        simp only [Act.put, List.setIfInBounds_toArray]
        dsimp only [List.set_cons_zero, List.set_cons_succ]
        refine wpZ_one (i := 4) (by kernel_rfl) rfl (fun K hK => ?_)
        go_simp
        refine (HMU.out wD).mono ?_
        rintro e wA ⟨rfl, hbA⟩
        have hlowA := bStep hlow0 hbA
        have hp0A := hlowA
        have hp1A := (hp1_0).belowAll hbA
        have hp2A := (hp2_0).belowAll hbA
        go_wp2_with fail
        refine hK.out _ _ (fun _ => ⟨hp0A, hp1A, hp2A⟩) ?_
        clear hK K hbA
        refine wpZ_one (i := 9) (by kernel_rfl) rfl (fun K hK => ?_)
        go_simp
        refine (HAD.out wA).mono ?_
        rintro e wB ⟨rfl, hbB⟩
        have hlowB := bStep hlowA hbB
        have hp0B := hlowB
        have hp1B := (hp1A).belowAll hbB
        have hp2B := (hp2A).belowAll hbB
        go_wp2_with fail
        refine hK.out _ _ (fun _ => ⟨hp0B, hp1B, hp2B⟩) ?_
        clear hK K hbB
        refine wpZ_one (i := 10) (by kernel_rfl) rfl (fun K hK => ?_)
        have bS := hp1B
        have cS := bS.cell; have fS := bS.frozen
        obtain ⟨wS, hwS, boS, hkS⟩ := bS.put4 o1
        go_simp
        refine hK.out _ _ (fun h => absurd rfl h) ?_
        clear hK K cS fS hwS
        refine wpZ_done (by kernel_rfl) ?_ _
        have hbwS := bKept (bStep hbr hlowB) l7 hkS
        have bxS := hp2B.kept n57 hkS
        have brS := (brr.belowAll hlowB).kept n67 hkS
        clear bS hkS hp0_0 hp1_0 hp2_0 hp0A hp1A hp2A hp0B hp1B hp2B hlow0 hlowA hlowB HCF HMU HAD
        go_wp2
        go_roundw
        case measure => simp [intOf]
        case rel => exact ⟨i, o1, rfl, by omega, hbwS, bxS, brS, boS, HNX.out⟩
    · have hi0 : ¬ (0 : Int) ≤ (i1 : Int) - 1 := by omega
      have e1 : i1 = 0 := by omega
      have HY : Hid (o < modN s ∧ fz s o = pf (fz s x) n (fun j => fz s (f j))) := ⟨HI.out.1, by
        have h := HI.out.2
        rw [e1, Nat.sub_zero] at h
        rw [h]
        exact pf_congr _ _ (fun j _ => by rw [Nat.zero_add])⟩
      have co := bo.cell; have cr := brr.cell; have fr := brr.frozen
      obtain ⟨w6, hw6, br6, hk6⟩ := brr.put4 o
      have hbw6 := bKept hbr l6 hk6
      have cs := br6.cell
      clear hk6 bo bx hbr HI
      go_wp2
      refine bodyPost_ret (v := .agg #[.int .u64 ((limb 0 (o) : Nat) : Int), .int .u64 ((limb 1 (o) : Nat) : Int), .int .u64 ((limb 2 (o) : Nat) : Int), .int .u64 ((limb 3 (o) : Nat) : Int)]) (by simp [results, Tryd.results40, go_sem, cs]) rfl ?_
      exact ⟨⟨o, rfl, Or.inl HY.out.1, HY.out.2⟩, hbw6⟩
end Go.Proofs.YtfjdnlcfhgamfaaDoor
