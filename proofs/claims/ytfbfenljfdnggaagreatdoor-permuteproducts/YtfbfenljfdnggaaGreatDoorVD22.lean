/- append of one element; the reference's check, Points and Eval of layer 6. -/
import Derived.Test.YtfbfenljfdnggaaGreatDoorVW4
import Derived.Test.YtfbfenljfdnggaaGreatDoorVR5D
namespace Go.Proofs.YtfbfenljfdnggaaGreatDoor
open Go.RowKit
def put1 (f : Nat → Nat) (n y i : Nat) : Nat := if i < n then f i else y
theorem els_put (f : Nat → Nat) (n y : Nat) : els f n ++ els (fun _ => y) 1 = els (put1 f n y) (n + 1) := by
  rw [els_succ (put1 f n y), els_congr (g := f) (f := put1 f n y) (fun i hi => if_pos hi), show put1 f n y n = y from if_neg (Nat.lt_irrefl n)]
  rfl
theorem one_cells {w : World} {B y : Nat} (hB : Blk w 25 B (fun i => limb i y)) (j : Nat) (u : Value) (h : (els (fun _ => y) 1)[j]? = some u) : w.cell? ((⟨B, 0, none⟩ : Addr).add j) = some u := by
  obtain ⟨h1, h2, rfl⟩ := els_at (fun _ => y) 1 j u h
  have hadd : (⟨B, 0, none⟩ : Addr).add j = ⟨B, 0 + j, none⟩ := by unfold Addr.add; split <;> simp_all
  rw [hadd, Nat.zero_add, show j = j % 4 by omega]
  rw [Nat.mod_mod]
  exact hB.cell (j % 4) h2
/-- append in an undrawn region, with where the new list lies. -/
theorem wpList_append_sep {P : Program} (w : World) {ops : Array Oper} {rest : List Oper} {o : Oper} {a : Act} {Q : Exit → Act → World → Prop} (hgd : o.guard = none) (s x : Operand) (t : TypeId)
    (ho : o.op = .call { callee := .builtin .append, args := #[s, x], argTypes := #[t, t] })
    (base : Nat) (e : TypeId) (i : TypeInfo) (z : Value) (size bytes : Nat) (ht : P.underlying t = some (.slice e)) (hi : P.info? e = some i) (hz : i.zero = some z)
    (hsize : i.size = size) (hby : i.bytes = bytes) (hzs : z.cells.size = size) (hsz : 0 < size)
    (v : Value) (n : Nat) (xs : List Value) (hs : a.eval s = v) (hown : w.ownsRow base e size v n xs)
    (ad : Addr) (m c : Nat) (news : List Value) (hx : a.eval x = .slice (some ad) m c) (hl : news.length = m * size) (hnews : ∀ j u, news[j]? = some u → w.cell? (ad.add j) = some u) (h1 : ∀ u ∈ news, u.oneCell' = true)
    (h63 : n + m ≤ maxLen) (hbytes : (n + m) * bytes ≤ 140737488355328) (hbase : base ≤ w.heap.size)
    (h : ∀ v' w', w'.ownsRow base e size v' (n + m) (xs ++ news) → w.grownBy w' v.ownBlock → (v'.ownBlock = v.ownBlock ∨ v'.ownBlock = some w.heap.size) → wpList P ops Q rest (a.put o.dst v') w') : wpList P ops Q (o :: rest) a w :=
  wpList_plain hgd fun _ hK => wp_append_sep w s x t ho base e i z size bytes ht hi hz hsize hby hzs hsz v n xs hs hown ad m c news hx hl hnews h1 h63 hbytes hbase fun v' w' h2 h3 h4 => hK _ _ (h v' w' h2 h3 h4)
theorem sepE {v v' : Value} {w : World} (h : v'.ownBlock = v.ownBlock ∨ v'.ownBlock = some w.heap.size) : ∀ b, v'.ownBlock = some b → v.ownBlock = some b ∨ w.heap.size ≤ b := fun b hb => by
  rcases h with h | h
  · exact Or.inl (h ▸ hb)
  · rw [h] at hb
    cases hb
    exact Or.inr (Nat.le_refl _)
theorem wpList_appE1 (w : World) {ops : Array Oper} {rest : List Oper} {o : Oper} {a : Act} {Q : Exit → Act → World → Prop} (hgd : o.guard = none) (s x : Operand)
    (ho : o.op = .call { callee := .builtin .append, args := #[s, x], argTypes := #[26, 26] }) (base n B y : Nat) (v : Value) (f : Nat → Nat) (hs : a.eval s = v) (hown : w.ownsRow base 25 4 v n (els f n)) (hx : a.eval x = .slice (some ⟨B, 0, none⟩) 1 1) (hB : Blk w 25 B (fun i => limb i y)) (hn : n ≤ 100000) (hbase : base ≤ w.heap.size)
    (h : ∀ v' w', w'.ownsRow base 25 4 v' (n + 1) (els (put1 f n y) (n + 1)) → w.grownBy w' v.ownBlock → (∀ b, v'.ownBlock = some b → v.ownBlock = some b ∨ w.heap.size ≤ b) → wpList Tryz.prog ops Q rest (a.put o.dst v') w') : wpList Tryz.prog ops Q (o :: rest) a w := by
  obtain ⟨i0, hi, hz0, hz1, hz2⟩ := elemInfo
  refine wpList_append_sep w hgd s x 26 ho base 25 i0 _ 4 32 Tryz.underlying26 hi hz0 hz1 hz2 rfl (by decide) v n (els f n) hs hown ⟨B, 0, none⟩ 1 1 (els (fun _ => y) 1) hx (els_len _ _) (fun j u => one_cells hB j u) (els_one _ _) (by unfold maxLen; omega) (by omega) hbase ?_
  intro v' w' h1 h2 h3
  rw [els_put] at h1
  exact h v' w' h1 h2 (sepE h3)
theorem Blk.grown {w w' : World} {t : TypeId} {b : Nat} {f : Nat → Nat} {row : Option Nat} (h : Blk w t b f) (hg : w.grownBy w' row) (hne : row ≠ some b) : Blk w' t b f := by
  have hl := h.lt
  unfold Blk at h ⊢
  rw [hg.block b hl (fun e => hne e.symm)]
  exact h
theorem own_newE (w : World) : (w.alloc (.cells #[] 25)).ownsRow w.heap.size 25 4 (.slice (some ⟨w.heap.size, 0, none⟩) 0 0) 0 [] :=
  ⟨by simp, Or.inr ⟨w.heap.size, 0, #[], rfl, Nat.le_refl _, new_blockE _ _, Nat.le_refl _, by decide, by simp, by simp⟩⟩
theorem own_baseE {w : World} {m base n : Nat} {v : Value} {xs : List Value} (h : w.ownsRow m 25 4 v n xs) (hm : base ≤ m) : w.ownsRow base 25 4 v n xs := by
  refine ⟨h.1, ?_⟩
  rcases h.2 with hn | ⟨g, cap, cur, hL, hb, rest⟩
  · exact Or.inl hn
  · exact Or.inr ⟨g, cap, cur, hL, Nat.le_trans hm hb, rest⟩
theorem own_keepE {w w' : World} {base n : Nat} {v : Value} {xs : List Value} (h : w.ownsRow base 25 4 v n xs) (hb : ∀ b, v.ownBlock = some b → w'.heap[b]? = w.heap[b]?) : w'.ownsRow base 25 4 v n xs := by
  refine ⟨h.1, ?_⟩
  rcases h.2 with hn | ⟨g, cap, cur, hL, hbs, hg, rest⟩
  · exact Or.inl hn
  · refine Or.inr ⟨g, cap, cur, hL, hbs, ?_, rest⟩
    rw [hb g (by rw [hL]; rfl)]
    exact hg
theorem own_ltE {w : World} {base n : Nat} {v : Value} {xs : List Value} (h : w.ownsRow base 25 4 v n xs) (b : Nat) (hb : v.ownBlock = some b) : base ≤ b ∧ b < w.heap.size := by
  rcases h.2 with ⟨hn, _⟩ | ⟨g, cap, cur, hL, hbs, hg, rest⟩
  · rw [hn] at hb; cases hb
  · rw [hL] at hb
    cases hb
    exact ⟨hbs, (Array.getElem?_eq_some_iff.1 hg).1⟩
set_option maxHeartbeats 2000000 in
theorem rchk_any (s k : Int) (w : World) : Calls Tryz.prog 63 #[.int .i64 s, .int .i64 k] w fun e w' => e = .returned (.int .i64 (chkE s k)) ∧ w' = w := by
  unfold chkE
  by_cases h1 : s < 0
  · rw [if_pos (Or.inl h1)]
    go_enter Tryz.func63, Tryz.ntmps63
    go_wp2
    go_ret
    exact ⟨rfl, rfl⟩
  · by_cases h2 : 4 ≤ s
    · rw [if_pos (Or.inr h2)]
      have h3 : 3 < s := by omega
      clear h2
      go_enter Tryz.func63, Tryz.ntmps63
      go_wp2
      go_ret
      exact ⟨rfl, rfl⟩
    · rw [if_neg (by omega)]
      have h3 : ¬ 3 < s := by omega
      clear h2
      by_cases h4 : k < 0
      · rw [if_pos (Or.inl h4)]
        go_enter Tryz.func63, Tryz.ntmps63
        go_wp2
        go_ret
        exact ⟨rfl, rfl⟩
      · by_cases h5 : 9 < k
        · rw [if_pos (Or.inr h5)]
          go_enter Tryz.func63, Tryz.ntmps63
          go_wp2
          go_ret
          exact ⟨rfl, rfl⟩
        · rw [if_neg (by omega)]
          go_enter Tryz.func63, Tryz.ntmps63
          go_wp2
          go_ret
          exact ⟨rfl, rfl⟩
set_option maxHeartbeats 8000000 in
set_option maxRecDepth 20000 in
theorem rPts_in (s k : Nat) (hs : s < 4) (hk : k ≤ 9) (w : World) : Calls Tryz.prog 28 #[.int .i64 (s : Int), .int .i64 (k : Int)] w fun e w' => (∃ v, e = .returned (.tuple #[v, .int .i64 0]) ∧ w'.ownsRow w.heap.size 25 4 v (2 ^ k) (els (fun i => expP s (rootP s k) i) (2 ^ k))) ∧ Below w.heap.size w w' := by
  have HC := rchk_any (s : Int) (k : Int) w
  rw [chk_in hs hk] at HC
  have HR := fun w => ref2Root_any s k hs (Nat.le_trans hk (adicN_ge s)) w
  obtain ⟨N, eN⟩ : ∃ N, N = 2 ^ k := ⟨_, rfl⟩
  have hN := pow9 hk
  rw [← eN] at hN ⊢
  have HSH : Hid (IntKind.i64.wrap (2 ^ k) = (N : Int)) := by
    have : (2 : Int) ^ k = (N : Int) := by rw [eN]; simp
    rw [this]
    exact wrap_i64_nat N (by omega)
  have HM : Hid (∀ a b w, a < 115792089237316195423570985008687907853269984665640564039457584007913129639936 → b < 115792089237316195423570985008687907853269984665640564039457584007913129639936 → Calls Tryz.prog 33 #[.int .i64 (s : Int), .agg #[.int .u64 ((limb 0 (a) : Nat) : Int), .int .u64 ((limb 1 (a) : Nat) : Int), .int .u64 ((limb 2 (a) : Nat) : Int), .int .u64 ((limb 3 (a) : Nat) : Int)], .agg #[.int .u64 ((limb 0 (b) : Nat) : Int), .int .u64 ((limb 1 (b) : Nat) : Int), .int .u64 ((limb 2 (b) : Nat) : Int), .int .u64 ((limb 3 (b) : Nat) : Int)]] w fun e w' => e = .returned (.agg #[.int .u64 ((limb 0 (mulP s a b) : Nat) : Int), .int .u64 ((limb 1 (mulP s a b) : Nat) : Int), .int .u64 ((limb 2 (mulP s a b) : Nat) : Int), .int .u64 ((limb 3 (mulP s a b) : Nat) : Int)]) ∧ Below w.heap.size w w') := fun a b w ha hb => ref2Mul_any s a b hs ha hb w
  have hk63 : ¬ (k : Int) < 0 := by omega
  have hkw : IntKind.u64.wrap (k : Int) = (k : Int) := by simp [IntKind.wrap, IntKind.bits, IntKind.signed]; omega
  obtain ⟨R, eR⟩ : ∃ R, R = rootP s k := ⟨_, rfl⟩
  rw [← eR] at HR ⊢
  have HRM : Hid (R < 115792089237316195423570985008687907853269984665640564039457584007913129639936) := by rw [eR]; exact lt_M s _ (rootP_lt s k)
  have HEM : Hid (∀ i, expP s R i < 115792089237316195423570985008687907853269984665640564039457584007913129639936) := fun i => lt_M s _ (expP_lt s R i)
  have HP0 : Hid (expP s R 0 = 1) := by unfold expP powM; rw [Nat.pow_zero, Nat.mod_eq_of_lt (modN_odd s).2]; exact rfl
  have HPS : Hid (∀ i, mulP s (expP s R i) R = expP s R (i + 1)) := fun i => powM_step _ _ _
  have HRT : Hid (∀ w, _) := HR
  clear eR eN HR
  go_enter Tryz.func28, Tryz.ntmps28
  go_wp2_with fail
  refine HC.mono ?_
  rintro e w1 ⟨rfl, hw⟩
  obtain rfl := hw.symm
  go_wp2_with fail
  refine (HRT.out _).mono ?_
  rintro e w1 ⟨rfl, hb1⟩
  obtain ⟨w4, hw4⟩ : ∃ z : World, z = ((w1.alloc (.cells #[.int .u64 ((limb 0 (R) : Nat) : Int), .int .u64 ((limb 1 (R) : Nat) : Int), .int .u64 ((limb 2 (R) : Nat) : Int), .int .u64 ((limb 3 (R) : Nat) : Int)] 25)).alloc (.cells #[] 25)).alloc (.cells #[.int .u64 1, .int .u64 0, .int .u64 0, .int .u64 0] 25) := ⟨_, rfl⟩
  obtain ⟨N7, e7⟩ : ∃ z, z = w1.heap.size := ⟨_, rfl⟩
  obtain ⟨N9, e9⟩ : ∃ z, z = N7 + 1 := ⟨_, rfl⟩
  obtain ⟨N10, e10⟩ : ∃ z, z = N9 + 1 := ⟨_, rfl⟩
  have s1 : (w1.alloc (.cells #[.int .u64 ((limb 0 (R) : Nat) : Int), .int .u64 ((limb 1 (R) : Nat) : Int), .int .u64 ((limb 2 (R) : Nat) : Int), .int .u64 ((limb 3 (R) : Nat) : Int)] 25)).heap.size = N9 := by rw [e9, e7]; exact Array.size_push ..
  have s2 : ((w1.alloc (.cells #[.int .u64 ((limb 0 (R) : Nat) : Int), .int .u64 ((limb 1 (R) : Nat) : Int), .int .u64 ((limb 2 (R) : Nat) : Int), .int .u64 ((limb 3 (R) : Nat) : Int)] 25)).alloc (.cells #[] 25)).heap.size = N10 := by rw [e10, ← s1]; exact Array.size_push ..
  have bR4 : Blk w4 25 N7 (fun i => limb i R) := by rw [hw4]; exact ((Blk.newAt _ _ _ (fun i => limb i R) e7).alloc _).alloc _
  have bp4 : Blk w4 25 N10 (fun i => limb i (expP s R 0)) := by
    rw [hw4, HP0.out]
    refine (Blk.newAt _ _ _ (fun i => if i = 0 then 1 else 0) s2.symm).congr (fun i hi => ?_)
    have hi4 : i = 0 ∨ i = 1 ∨ i = 2 ∨ i = 3 := by omega
    rcases hi4 with rfl | rfl | rfl | rfl
    · rw [limb_one.1]; rfl
    · rw [limb_one.2.1]; rfl
    · rw [limb_one.2.2.1]; rfl
    · rw [limb_one.2.2.2]; rfl
  have hb4 : Below w.heap.size w w4 := by rw [hw4]; exact bAlloc (bAlloc (bAlloc hb1 _) _) _
  have ho4 : w4.ownsRow w.heap.size 25 4 (.slice (some ⟨N9, 0, none⟩) 0 0) 0 (els (fun i => expP s R i) 0) := by
    have h := own_newE (w1.alloc (.cells #[.int .u64 ((limb 0 (R) : Nat) : Int), .int .u64 ((limb 1 (R) : Nat) : Int), .int .u64 ((limb 2 (R) : Nat) : Int), .int .u64 ((limb 3 (R) : Nat) : Int)] 25))
    rw [s1] at h
    have h2 := own_keepE (w' := w4) h (fun b hb => by
      cases hb
      rw [hw4]
      exact (bAlloc (Below.refl _ _) _).block N9 (by rw [s2]; omega))
    exact own_baseE h2 (by have := hb1.size; omega)
  go_upto_region 7 with fail
  rw [← hw4, ← e7, ← e9]
  rw [← e10]
  have l10 : N7 < N10 := by omega
  have l9 : N9 < N10 := by omega
  have l7 : w.heap.size ≤ N7 := by rw [e7]; exact hb1.size
  have n97 : N9 ≠ N7 := by omega
  clear hw4 e7 e9 e10 s1 s2 hb1 HRT HC
  go_wp2
  go_loopw [9, 11] (fun out iv wr => ∃ j : Nat, iv = .int .i64 (j : Int) ∧ j ≤ N ∧ Below w.heap.size w wr ∧ Blk wr 25 N7 (fun i => limb i R) ∧ Blk wr 25 N10 (fun i => limb i (expP s R j)) ∧ wr.ownsRow w.heap.size 25 4 out j (els (fun i => expP s R i) j) ∧ Hid (∀ b, out.ownBlock = some b → b ≠ N7 ∧ b ≠ N10)) (fun _ iv _ => N - (intOf iv).toNat)
  case atStart => exact ⟨0, rfl, Nat.zero_le _, hb4, bR4, bp4, ho4, fun b hb => by have hb' : N9 = b := Option.some.inj hb; rw [← hb']; exact ⟨n97, Nat.ne_of_lt l9⟩⟩
  case round =>
    obtain ⟨j, rfl, hj, hbr, bR, bp, hown, HN⟩ := hrel
    clear hb4 bR4 bp4 ho4
    have hsh := HSH.out
    by_cases hlt : j < N
    · have hji : (j : Int) < (N : Int) := by omega
      obtain ⟨p, ep⟩ : ∃ p, p = expP s R j := ⟨_, rfl⟩
      rw [← ep] at bp
      have HEP : Hid (p = expP s R j) := ep
      clear ep
      have cp := bp.cell
      have hbA : Below wr.heap.size wr (wr.alloc (.cells #[.int .u64 ((limb 0 (p) : Nat) : Int), .int .u64 ((limb 1 (p) : Nat) : Int), .int .u64 ((limb 2 (p) : Nat) : Int), .int .u64 ((limb 3 (p) : Nat) : Int)] 25)) := bAlloc (Below.refl _ _) _
      have hownA : Hid ((wr.alloc (.cells #[.int .u64 ((limb 0 (p) : Nat) : Int), .int .u64 ((limb 1 (p) : Nat) : Int), .int .u64 ((limb 2 (p) : Nat) : Int), .int .u64 ((limb 3 (p) : Nat) : Int)] 25)).ownsRow w.heap.size 25 4 u9 j (els (fun i => expP s R i) j)) := own_keepE hown (fun b hb => hbA.block b (own_ltE hown b hb).2)
      have bRA := bR.belowAll hbA; have bpA := bp.belowAll hbA
      have BNA : Hid (Blk (wr.alloc (.cells #[.int .u64 ((limb 0 (p) : Nat) : Int), .int .u64 ((limb 1 (p) : Nat) : Int), .int .u64 ((limb 2 (p) : Nat) : Int), .int .u64 ((limb 3 (p) : Nat) : Int)] 25)) 25 wr.heap.size (fun i => limb i p)) := Blk.newAt _ _ _ (fun i => limb i p) rfl
      have hszA : Hid (w.heap.size ≤ (wr.alloc (.cells #[.int .u64 ((limb 0 (p) : Nat) : Int), .int .u64 ((limb 1 (p) : Nat) : Int), .int .u64 ((limb 2 (p) : Nat) : Int), .int .u64 ((limb 3 (p) : Nat) : Int)] 25)).heap.size) := Nat.le_trans hbr.size hbA.size
      have lp := bp.lt; have lR := bR.lt
      go_wp2_with (first
        | (at_builtin; refine wpList_appE1 _ rfl _ _ rfl w.heap.size j wr.heap.size p _ (fun i => expP s R i) rfl hownA.out rfl BNA.out (by omega) hszA.out ?_)
        | go_in)
      intro v2 w2 hown2 hg2 hs2
      have hn7 : u9.ownBlock ≠ some N7 := fun h => (HN.out N7 h).1 rfl
      have hn10 : u9.ownBlock ≠ some N10 := fun h => (HN.out N10 h).2 rfl
      have bR2 := bRA.grown hg2 hn7; have bp2 := bpA.grown hg2 hn10
      have hbw2 : Below w.heap.size w w2 := (bStep hbr hbA).grown hg2 hszA.out (fun b hb => (own_ltE hown b hb).1)
      have HN2 : Hid (∀ b, v2.ownBlock = some b → b ≠ N7 ∧ b ≠ N10) := fun b hb => by
        rcases hs2 b hb with h | h
        · exact HN.out b h
        · exact ⟨by omega, by omega⟩
      have hown3 : w2.ownsRow w.heap.size 25 4 v2 (j + 1) (els (fun i => expP s R i) (j + 1)) := by
        rw [els_congr (g := put1 (fun i => expP s R i) j p) (fun i hi => by unfold put1; by_cases h : i < j; rw [if_pos h]; rw [if_neg h, HEP.out, show i = j by omega])]
        exact hown2
      clear hg2 hs2 hown2 hbA hownA bRA bpA BNA hszA hown bR bp hbr cp hn7 hn10 HN lp lR
      have cp := bp2.cell; have cR := bR2.cell
      have MM := HM.out p R w2 (by rw [HEP.out]; exact HEM.out j) HRM.out
      rw [show mulP s p R = expP s R (j + 1) by rw [HEP.out]; exact HPS.out j] at MM
      obtain ⟨p1, ep1⟩ : ∃ z, z = expP s R (j + 1) := ⟨_, rfl⟩
      rw [← ep1] at MM
      have HEP1 : Hid (p1 = expP s R (j + 1)) := ep1
      clear ep1
      go_wp2_with fail
      refine MM.mono ?_
      rintro e w6 ⟨rfl, hb6⟩
      have bp6 := bp2.belowAll hb6
      have bR6 := bR2.belowAll hb6
      have ho6 := own_keepE (w' := w6) hown3 (fun b hb => hb6.block b (own_ltE hown3 b hb).2)
      have hbw6 := bStep hbw2 hb6
      clear bp2 bR2 hown3 hbw2 hb6 cp cR MM
      have cp := bp6.cell; have fp := bp6.frozen
      obtain ⟨w7, hw7, bp7, hk7⟩ := bp6.put4 p1
      have bR7 := bR6.kept (by omega) hk7
      have ho7 := own_keepE (w' := w7) ho6 (fun b hb => hk7.block b (own_ltE ho6 b hb).2 (HN2.out b hb).2)
      have hbw7 : Below w.heap.size w w7 := bKept hbw6 (by omega) hk7
      rw [HEP1.out] at bp7
      clear bR6 ho6 hbw6 hk7
      go_wp2
      go_roundw
      case measure => simp [intOf]; omega
      case rel => exact ⟨j + 1, by go_num, by omega, hbw7, bR7, bp7, ho7, HN2⟩
    · have hji : ¬ (j : Int) < (N : Int) := by omega
      have ej : j = N := by omega
      subst ej
      clear bp
      go_wp2
      go_ret2
      exact ⟨⟨_, rfl, hown⟩, hbr⟩
end Go.Proofs.YtfbfenljfdnggaaGreatDoor
