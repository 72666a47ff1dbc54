import Derived.Test.YtokoknacolmhgaaGreatDoorWSL
namespace Go.Proofs.YtokoknacolmhgaaGreatDoor
open Go.RowKit
theorem append_sep {P : Program} {w : World} {base : Nat} {t ty e : TypeId} {i : TypeInfo} {z : Value} {size bytes : Nat} (ht : P.underlying t = some (.slice e)) (hi : P.info? e = some i) (hz : i.zero = some z)
  (hsize : i.size = size) (hby : i.bytes = bytes) (hzs : z.cells.size = size) (hsz : 0 < size) {v : Value} {n : Nat} {xs : List Value} (hown : w.ownsRow base e size v n xs)
  {a : Addr} {m c : Nat} {news : List Value} (hl : news.length = m * size) (hnews : ∀ j u, news[j]? = some u → w.cell? (a.add j) = some u) (h1 : ∀ u ∈ news, u.oneCell' = true)
  (h63 : n + m ≤ maxLen) (hbytes : (n + m) * bytes ≤ 140737488355328) (hbase : base ≤ w.heap.size) {v' : Value} {w' : World}
  (hr : (Builtin.append_ #[t, t] ty #[v, .slice (some a) m c]).run P w = .ok v' w') : v'.ownBlock = v.ownBlock ∨ v'.ownBlock = some w.heap.size := by
 obtain ⟨v1, w1, hr1, _, _, h4⟩ := run_append_own (P := P) w base t ty e i z size bytes ht hi hz hsize hby hzs hsz v n xs hown a m c news hl hnews h1 h63 hbytes hbase
 rw [hr] at hr1
 cases hr1
 subst hsize
 subst hby
 have hsmall : n + m ≤ 9223372036854775807 := by simp only [maxLen] at h63; omega
 rcases hown.2 with ⟨rfl, rfl⟩ | ⟨g, cap, cur, rfl, _, hg, _, _, hcs, _⟩
 ·by_cases hm : m = 0
  ·rw [h4.mpr ⟨rfl, hm⟩]
   exact Or.inl rfl
  ·have h := run_append_nil (P := P) w t ty e i z ht hi hz a m c news hl hnews (by omega) (by omega) (by have hb := hbytes; simp only [Nat.zero_add] at hb; omega)
   rw [hr] at h
   cases h
   exact Or.inr rfl
 ·by_cases hroom : n + m ≤ cap
  ·have hfit : n * i.size + news.length ≤ cur.size := by rw [hl, hcs, ← Nat.add_mul]; exact Nat.mul_le_mul_right _ hroom
   have h := run_append_room (P := P) w t ty e i ht hi g n cap cur hg a m c news hl hnews h1 hroom hfit
   rw [hr] at h
   cases h
   exact Or.inl rfl
  ·have holds : ∀ j u, xs[j]? = some u → w.cell? ((⟨g, 0, none⟩ : Addr).add j) = some u := hown.cells (g := g) rfl
   have h := run_append_grow (P := P) w t ty e i z ht hi hz ⟨g, 0, none⟩ n cap xs hown.1 holds a m c news hl hnews (by omega) (by omega) (growslice_fits (by omega) hbytes)
   rw [hr] at h
   cases h
   exact Or.inr rfl
theorem wp_append_sep {P : Program} (w : World) {o : Oper} {a : Act} {K : Act → World → Prop} {Q : Exit → Act → World → Prop} (s x : Operand) (t : TypeId)
  (ho : o.op = .call { callee := .builtin .append, args := #[s, x], argTypes := #[t, t] })
  (base : Nat) (e : TypeId) (i : TypeInfo) (z : Value) (size bytes : Nat) (ht : P.underlying t = some (.slice e)) (hi : P.info? e = some i) (hz : i.zero = some z)
  (hsize : i.size = size) (hby : i.bytes = bytes) (hzs : z.cells.size = size) (hsz : 0 < size)
  (v : Value) (n : Nat) (xs : List Value) (hs : a.eval s = v) (hown : w.ownsRow base e size v n xs)
  (ad : Addr) (m c : Nat) (news : List Value) (hx : a.eval x = .slice (some ad) m c) (hl : news.length = m * size) (hnews : ∀ j u, news[j]? = some u → w.cell? (ad.add j) = some u) (h1 : ∀ u ∈ news, u.oneCell' = true)
  (h63 : n + m ≤ maxLen) (hbytes : (n + m) * bytes ≤ 140737488355328) (hbase : base ≤ w.heap.size)
  (h : ∀ v' w', w'.ownsRow base e size v' (n + m) (xs ++ news) → w.grownBy w' v.ownBlock → (v'.ownBlock = v.ownBlock ∨ v'.ownBlock = some w.heap.size) → K (a.put o.dst v') w') : o.wp P a w K Q := by
 obtain ⟨v', w', hr, h2, h3, _⟩ := run_append_own (P := P) w base t o.type e i z size bytes ht hi hz hsize hby hzs hsz v n xs hown ad m c news hl hnews h1 h63 hbytes hbase
 have h5 := append_sep ht hi hz hsize hby hzs hsz hown hl hnews h1 h63 hbytes hbase hr
 have hk := h v' w' h2 h3 h5
 unfold Oper.wp execOp
 simp only [ho, resolve, invoke, builtin, Sem.run_bind, Sem.run_pure, Result.andThen_ok, List.map_toArray, List.map_cons, List.map_nil, hs, hx, hr]
 exact hk
end Go.Proofs.YtokoknacolmhgaaGreatDoor
namespace Go.Proofs.YtokoknacolmhgaaGreatDoor
open Go.RowKit
set_option maxHeartbeats 8000000 in
set_option maxRecDepth 20000 in
theorem add_sep (B c s k x y n base : Nat) (i : Bool) (v : Value) (T : Nat → Nat × Nat × Nat × Bool) (hc : c < 4) (hxo : bits BinOp.xor IntKind.i64 (c : Int) 1 = (s : Int)) (hs : s < 4) (hk : k < 115792089237316195423570985008687907853269984665640564039457584007913129639936) (hx : x < 115792089237316195423570985008687907853269984665640564039457584007913129639936) (hy : y < 115792089237316195423570985008687907853269984665640564039457584007913129639936) (hon : onC c x y i) (hn : n < 100000) (w : World) (hg : GlobC w) (hL : Lz w B c v) (hown : w.ownsRow base 43 13 v n (trs T n)) (hbase : base ≤ w.heap.size) (hne : v.ownBlock ≠ some B) :
  Calls Tryz.prog 16 #[.pointer (some ⟨B, 0, none⟩), .agg #[.int .u64 (limb 0 k), .int .u64 (limb 1 k), .int .u64 (limb 2 k), .int .u64 (limb 3 k)], .agg #[.int .u64 (limb 0 x), .int .u64 (limb 1 x), .int .u64 (limb 2 x), .int .u64 (limb 3 x), .int .u64 (limb 0 y), .int .u64 (limb 1 y), .int .u64 (limb 2 y), .int .u64 (limb 3 y), .bool i]] w fun e w' => (∃ v', e = .returned (.int .i64 0) ∧ Lz w' B c v' ∧ w'.ownsRow base 43 13 v' (n + 1) (trs (put T n (k % modN s, x, y, i)) (n + 1)) ∧ v'.ownBlock ≠ some B ∧ (v'.ownBlock = v.ownBlock ∨ ∃ b, v'.ownBlock = some b ∧ w.heap.size ≤ b)) ∧ But w w' B v.ownBlock := by
 have HG0 : Hid (GlobC w) := hg
 have HON : Hid (∀ w, GlobC w → _) := fun w hg => on_in c x y i hc hx hy w hg
 rw [decide_eq_true hon] at HON
 have HSC : Hid (∀ w, Glob w → _) := fun w hg => scalar_any c s k hxo hs hk w hg
 obtain ⟨kk, ek⟩ : ∃ kk, kk = k % modN s := ⟨_, rfl⟩
 rw [← ek] at HSC ⊢
 obtain ⟨i0, hi, hz0, hz1, hz2⟩ := termInfo
 have HI := (show Hid _ from hi); have HZ := (show Hid _ from And.intro hz0 (And.intro hz1 hz2)); clear hi hz0 hz1 hz2
 have HOW : Hid (w.ownsRow base 43 13 v n (trs T n)) := hown
 have HB : Hid (base ≤ w.heap.size ∧ v.ownBlock ≠ some B ∧ B < w.heap.size ∧ n < 100000) := ⟨hbase, hne, hL.lt, hn⟩
 have hV : ∃ oa cn, v = .slice oa n cn := by
  rcases hown.2 with ⟨rfl, rfl⟩ | ⟨g, cap, cur, rfl, _⟩
  ·exact ⟨_, _, rfl⟩
  ·exact ⟨_, _, rfl⟩
 have HVL : Hid (∀ j, v.ownBlock = some j → j < w.heap.size) := fun j hj => (hown.lt j hj).2
 have hni : (decide ((100000 : Int) ≤ (n : Int))) = false := by simp; omega
 clear hc hx hy hon hg hxo hs hk ek hown hbase hne hn
 obtain ⟨oa, cn, hv⟩ := hV
 go_enter Tryz.func16, Tryz.ntmps16
 go_upto_region 1 with fail
 obtain ⟨N4, eN4⟩ : ∃ N, N = w.heap.size := ⟨_, rfl⟩
 obtain ⟨N5, eN5⟩ : ∃ N, N = w.heap.size + 1 := ⟨_, rfl⟩
 obtain ⟨w0, hw0⟩ : ∃ w0 : World, w0 = (w.alloc (.cells #[.int .u64 (limb 0 k), .int .u64 (limb 1 k), .int .u64 (limb 2 k), .int .u64 (limb 3 k)] 28)).alloc (.cells #[.int .u64 (limb 0 x), .int .u64 (limb 1 x), .int .u64 (limb 2 x), .int .u64 (limb 3 x), .int .u64 (limb 0 y), .int .u64 (limb 1 y), .int .u64 (limb 2 y), .int .u64 (limb 3 y), .bool i] 30) := ⟨_, rfl⟩
 have bk0 : Blk w0 28 N4 (fun i => limb i k) := by rw [hw0, eN4]; exact (Blk.newAt _ _ _ (fun i => limb i k) (by simp)).alloc _
 have bp0 : Pt w0 N5 x y i := by rw [hw0, eN5]; exact Pt.newAt _ _ _ _ _ (by simp)
 have hb0 : Below w.heap.size w w0 := by rw [hw0]; exact bAlloc ((Below.refl _ _).alloc (Nat.le_refl _) _) _
 have bL0 : Lz w0 B c v := hL.belowAll hb0
 have HNN : Hid (w.heap.size ≤ N4 ∧ w.heap.size ≤ N5) := ⟨by omega, by omega⟩
 rw [← hw0]
 rw [← eN5, ← eN4]
 clear hw0 eN4 eN5 hL
 have HG : Hid (GlobC w0) := HG0.out.below hb0
 have HHV : Hid (v = .slice oa n cn) := hv
 clear hv
 refine wp_region_Z (fun w' => Lz w' B c v ∧ Pt w' N5 x y i) 99 (by kernel_rfl) ?_
 obtain ⟨wD, hD⟩ : ∃ x : World, x = w0.drew := ⟨_, rfl⟩
 rw [← hD]
 have hp0_0 : Lz wD B c v := by rw [hD]; exact bL0
 have hp1_0 : Pt wD N5 x y i := by rw [hD]; exact bp0
 have hlow0 : Below w0.heap.size w0 wD := by rw [hD]; exact (Below.refl _ _).drew
 clear hD
 refine zs 0 7 (.pointer (some ⟨B, 0, none⟩)) ⟨hp0_0, hp1_0⟩ ?_
 refine zs 1 8 (.pointer (some ⟨B, 0, none⟩)) ⟨hp0_0, hp1_0⟩ ?_
 refine zs 2 9 (.pointer (some ⟨B, 0, none⟩)) ⟨hp0_0, hp1_0⟩ ?_
 refine zT 3 10 (.int .i64 (c : Int)) rfl rfl (fun w hSw => by (obtain ⟨q0, q1, qf⟩ := hSw.1.cells; clear hSw; go_simp)) ⟨hp0_0, hp1_0⟩ ?_
 refine zT 4 11 (.agg #[.int .u64 (limb 0 x), .int .u64 (limb 1 x), .int .u64 (limb 2 x), .int .u64 (limb 3 x), .int .u64 (limb 0 y), .int .u64 (limb 1 y), .int .u64 (limb 2 y), .int .u64 (limb 3 y), .bool i]) rfl rfl (fun w hSw => by (obtain ⟨q0, q1, q2, q3, q4, q5, q6, q7, q8, qf⟩ := (hSw.2).cells; clear hSw; go_simp)) ⟨hp0_0, hp1_0⟩ ?_
 refine zo 5 rfl (fun K hK => ?_)
 go_simp
 refine (HON.out wD (HG.out.below hlow0)).mono ?_
 rintro e wK1 ⟨rfl, hbK1⟩
 have hlow1 := bStep hlow0 hbK1
 have hp0_1 := (hp0_0).belowAll hbK1
 have hp1_1 := (hp1_0).belowAll hbK1
 go_wp2_with fail
 refine hK.out _ _ (fun _ => ⟨hp0_1, hp1_1⟩) ?_
 clear hK K
 refine zs 6 13 (.bool false) ⟨hp0_1, hp1_1⟩ ?_
 refine zd ?_ _
 have hbw1 := bStep hb0 hlow1
 obtain ⟨W1, eW1⟩ : ∃ W : World, W = wK1 := ⟨_, rfl⟩
 have bL1 : Lz W1 B c v := by rw [eW1]; exact hp0_1
 have bp1 : Pt W1 N5 x y i := by rw [eW1]; exact hp1_1
 have bk1 : Blk W1 28 N4 (fun i => limb i k) := by rw [eW1]; exact bk0.belowAll hlow1
 have hbW1 : Below w.heap.size w W1 := by rw [eW1]; exact hbw1
 rw [← eW1]
 clear eW1 hbw1 bL0 bp0 bk0 hb0
 have HW : Hid (GlobC W1) := HG0.out.below hbW1
 obtain ⟨q0, q1, qf⟩ := bL1.cells
 rw [HHV.out] at q1
 go_upto_region 5 with fail
 clear q0 q1 qf
 refine wp_region_Z (fun w' => Lz w' B c v ∧ Blk w' 28 N4 (fun i => limb i k) ∧ Pt w' N5 x y i) 17 (by kernel_rfl) ?_
 obtain ⟨wD, hD⟩ : ∃ x : World, x = W1.drew := ⟨_, rfl⟩
 rw [← hD]
 have hp0_0 : Lz wD B c v := by rw [hD]; exact bL1
 have hp1_0 : Blk wD 28 N4 (fun i => limb i k) := by rw [hD]; exact bk1
 have hp2_0 : Pt wD N5 x y i := by rw [hD]; exact bp1
 have hlow0 : Below W1.heap.size W1 wD := by rw [hD]; exact (Below.refl _ _).drew
 clear hD
 refine zs 0 20 (.pointer (some ⟨B, 0, none⟩)) ⟨hp0_0, hp1_0, hp2_0⟩ ?_
 refine zs 1 21 (.pointer (some ⟨B, 0, none⟩)) ⟨hp0_0, hp1_0, hp2_0⟩ ?_
 refine zs 2 22 (.pointer (some ⟨B, 0, none⟩)) ⟨hp0_0, hp1_0, hp2_0⟩ ?_
 refine zs 3 23 (.pointer (some ⟨B, 1, none⟩)) ⟨hp0_0, hp1_0, hp2_0⟩ ?_
 refine zT 4 24 (v) rfl rfl (fun w hSw => by (obtain ⟨q0, q1, qf⟩ := hSw.1.cells; clear hSw; go_simp)) ⟨hp0_0, hp1_0, hp2_0⟩ ?_
 refine zs 5 25 (.pointer (some ⟨B, 0, none⟩)) ⟨hp0_0, hp1_0, hp2_0⟩ ?_
 refine zs 6 26 (.pointer (some ⟨B, 0, none⟩)) ⟨hp0_0, hp1_0, hp2_0⟩ ?_
 refine zs 7 27 (.pointer (some ⟨B, 0, none⟩)) ⟨hp0_0, hp1_0, hp2_0⟩ ?_
 refine zT 8 28 (.int .i64 (c : Int)) rfl rfl (fun w hSw => by (obtain ⟨q0, q1, qf⟩ := hSw.1.cells; clear hSw; go_simp)) ⟨hp0_0, hp1_0, hp2_0⟩ ?_
 refine zT 9 29 (.agg #[.int .u64 (limb 0 k), .int .u64 (limb 1 k), .int .u64 (limb 2 k), .int .u64 (limb 3 k)]) rfl rfl (fun w hSw => by (have qq := (hSw.2.1).cell; clear hSw; go_simp)) ⟨hp0_0, hp1_0, hp2_0⟩ ?_
 refine zT 11 31 (.agg #[.int .u64 (limb 0 x), .int .u64 (limb 1 x), .int .u64 (limb 2 x), .int .u64 (limb 3 x), .int .u64 (limb 0 y), .int .u64 (limb 1 y), .int .u64 (limb 2 y), .int .u64 (limb 3 y), .bool i]) rfl rfl (fun w hSw => by (obtain ⟨q0, q1, q2, q3, q4, q5, q6, q7, q8, qf⟩ := (hSw.2.2).cells; clear hSw; go_simp)) ⟨hp0_0, hp1_0, hp2_0⟩ ?_
 refine zo 10 rfl (fun K hK => ?_)
 go_simp
 refine (HSC.out wD (HW.out.below hlow0).1).mono ?_
 rintro e wK1 ⟨rfl, hbK1⟩
 have hlow1 := bStep hlow0 hbK1
 have hp0_1 := (hp0_0).belowAll hbK1
 have hp1_1 := (hp1_0).belowAll hbK1
 have hp2_1 := (hp2_0).belowAll hbK1
 go_wp2_with fail
 refine hK.out _ _ (fun _ => ⟨hp0_1, hp1_1, hp2_1⟩) ?_
 clear hK K
 refine zs 12 32 (.agg #[.int .u64 (limb 0 kk), .int .u64 (limb 1 kk), .int .u64 (limb 2 kk), .int .u64 (limb 3 kk), .int .u64 (limb 0 x), .int .u64 (limb 1 x), .int .u64 (limb 2 x), .int .u64 (limb 3 x), .int .u64 (limb 0 y), .int .u64 (limb 1 y), .int .u64 (limb 2 y), .int .u64 (limb 3 y), .bool i]) ⟨hp0_1, hp1_1, hp2_1⟩ ?_
 refine zo 13 rfl (fun K hK => ?_)
 go_simp
 obtain ⟨NS, eNS⟩ : ∃ N, N = wK1.heap.size := ⟨_, rfl⟩
 obtain ⟨wB, hwB⟩ : ∃ zz : World, zz = wK1.alloc (.cells #[.int .u64 (limb 0 kk), .int .u64 (limb 1 kk), .int .u64 (limb 2 kk), .int .u64 (limb 3 kk), .int .u64 (limb 0 x), .int .u64 (limb 1 x), .int .u64 (limb 2 x), .int .u64 (limb 3 x), .int .u64 (limb 0 y), .int .u64 (limb 1 y), .int .u64 (limb 2 y), .int .u64 (limb 3 y), .bool i] 43) := ⟨_, rfl⟩
 have hp0_2 : Lz wB B c v := by rw [hwB]; exact (hp0_1).alloc _
 have hp1_2 : Blk wB 28 N4 (fun i => limb i k) := by rw [hwB]; exact (hp1_1).alloc _
 have hp2_2 : Pt wB N5 x y i := by rw [hwB]; exact (hp2_1).alloc _
 have hrow : ∀ j u, (trs (fun _ => (kk, x, y, i)) 1)[j]? = some u → wB.cell? ((⟨NS, 0, none⟩ : Addr).add j) = some u := by rw [hwB]; exact one_row wK1 NS kk x y i eNS
 have hlow2 : Below W1.heap.size W1 wB := by rw [hwB]; exact bAlloc hlow1 _
 rw [← hwB]
 rw [← eNS]
 refine hK.out _ _ (fun _ => ⟨hp0_2, hp1_2, hp2_2⟩) ?_
 clear hK K hwB eNS
 refine zo 14 rfl (fun K hK => ?_)
 have hbwB := bStep hbW1 hlow2
 have hownB : wB.ownsRow base 43 13 v n (trs T n) := HOW.out.kept (row := none) ⟨hbwB.os, hbwB.tape, hbwB.output, hbwB.size, fun k hk _ => hbwB.block k hk⟩ (by cases h : v.ownBlock with | none => exact Or.inl rfl | some j => exact Or.inr (by simp))
 rw [if_pos (show Region.wanted _ _ = true from rfl)]
 refine wp_append_sep wB _ _ 22 rfl base 43 i0 (.agg #[.int .u64 0, .int .u64 0, .int .u64 0, .int .u64 0, .int .u64 0, .int .u64 0, .int .u64 0, .int .u64 0, .int .u64 0, .int .u64 0, .int .u64 0, .int .u64 0, .bool false]) 13 104 Tryz.underlying22 HI.out HZ.out.1 HZ.out.2.1 HZ.out.2.2 rfl (by decide) v n (trs T n) rfl hownB ⟨NS, 0, none⟩ 1 1 (trs (fun _ => (kk, x, y, i)) 1) rfl (trs_len _ _) hrow (trs_one _ _) ?c1 ?c2 ?c3 ?_
 case c1 => have := HB.out.2.2.2; unfold maxLen; omega
 case c2 => have := HB.out.2.2.2; omega
 case c3 => exact Nat.le_trans HB.out.1 hbwB.size
 intro v' wA hownA hgrow hsep
 rw [trs_put] at hownA
 have hV' : ∃ oa' cn', v' = .slice oa' (n + 1) cn' := by
  rcases hownA.2 with ⟨rfl, h⟩ | ⟨g, cap, cur, rfl, _⟩
  ·omega
  ·exact ⟨_, _, rfl⟩
 obtain ⟨oa', cn', rfl⟩ := hV'
 have hnB : some B ≠ v.ownBlock := fun h => HB.out.2.1 h.symm
 have hn4 : some N4 ≠ v.ownBlock := fun h => by have := HVL.out N4 h.symm; have := HNN.out.1; omega
 have hn5 : some N5 ≠ v.ownBlock := fun h => by have := HVL.out N5 h.symm; have := HNN.out.2; omega
 have hp0_3 : Lz wA B c v := by unfold Lz; rw [hgrow.block B (hp0_2).lt hnB]; exact hp0_2
 have hp1_3 : Blk wA 28 N4 (fun i => limb i k) := (hp1_2).of_block (hgrow.block N4 (hp1_2).lt hn4)
 have hp2_3 : Pt wA N5 x y i := by unfold Pt; rw [hgrow.block N5 (hp2_2).lt hn5]; exact hp2_2
 have hbut : But w wA B v.ownBlock := ⟨hgrow.os.trans hbwB.os, hgrow.tape.trans hbwB.tape, hgrow.output.trans hbwB.output, Nat.le_trans hbwB.size hgrow.size, fun k hk _ h2 => (hgrow.block k (Nat.lt_of_lt_of_le hk hbwB.size) h2).trans (hbwB.block k hk)⟩
 have hvB : (Value.slice oa' (n + 1) cn').ownBlock ≠ some B := own_new_ne hgrow hownA hp0_3
 have HSEP : Hid ((Value.slice oa' (n + 1) cn').ownBlock = v.ownBlock ∨ ∃ b, (Value.slice oa' (n + 1) cn').ownBlock = some b ∧ w.heap.size ≤ b) := by
  rcases hsep with h | h
  ·exact Or.inl h
  ·exact Or.inr ⟨_, h, hbwB.size⟩
 have HOA := (show Hid _ from hownA); have HBU : Hid (But w wA B v.ownBlock) := hbut; have HVB := (show Hid _ from hvB)
 clear hownA hgrow hsep hbut hvB hnB hn4 hn5 hownB hbwB hrow
 go_simp
 refine hK.out _ _ (fun _ => ⟨hp0_3, hp1_3, hp2_3⟩) ?_
 clear hK K
 refine zo 15 rfl (fun K hK => ?_)
 go_simp
 refine hK.out _ _ (fun _ => ⟨hp0_3, hp1_3, hp2_3⟩) ?_
 clear hK K
 refine zs 16 36 (.pointer (some ⟨B, 1, none⟩)) ⟨hp0_3, hp1_3, hp2_3⟩ ?_
 refine zo 17 rfl (fun K hK => ?_)
 obtain ⟨g0, g1, gf⟩ := (hp0_3).cells
 go_simp
 refine hK.out _ _ (fun h => absurd rfl h) ?_
 clear hK K
 refine zd ?_ _
 go_wp2
 go_ret
 refine ⟨⟨.slice oa' (n + 1) cn', rfl, (hp0_3).set _, ?_, HVB.out, HSEP.out⟩, ?_⟩
 ·exact own_set HOA.out HVB.out
 ·exact but_set HBU.out _
end Go.Proofs.YtokoknacolmhgaaGreatDoor
