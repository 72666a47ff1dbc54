/- The reference's Coins.Next. -/
import Derived.Test.YteheloagjkengaaDoorMLE
namespace Go.Proofs.YteheloagjkengaaDoor
open Go.RowKit

theorem Lay.frozen {w : World} {t : TypeId} {b : Nat} {cs : Array Value} (h : Lay w t b cs) : w.frozen? ⟨b, 0, none⟩ = false ∧ w.frozen? ⟨b, 1, none⟩ = false := by unfold Lay at h; simp [World.frozen?, h]
theorem Lay.kept {w w' : World} {t : TypeId} {b g : Nat} {cs : Array Value} (h : Lay w t b cs) (hne : b ≠ g) (hk : Kept g w w') : Lay w' t b cs := by unfold Lay; rw [hk.block b h.lt hne]; exact h
theorem Lay.put2 {w : World} {t : TypeId} {b : Nat} {x0 x1 : Value} (h : Lay w t b #[x0, x1]) (v0 v1 : Value) : ∃ w', (w.setCell ⟨b, 0, none⟩ v0).setCell ⟨b, 1, none⟩ v1 = w' ∧ Lay w' t b #[v0, v1] ∧ Kept b w w' :=
  ⟨_, rfl, by unfold Lay at h ⊢; simp [World.setCell, Array.getElem?_modify, h], ((Kept.refl _ _).setCell 0 _).setCell 1 _⟩
theorem Lay.put1 {w : World} {t : TypeId} {b : Nat} {x0 x1 : Value} (h : Lay w t b #[x0, x1]) (v1 : Value) : ∃ w', w.setCell ⟨b, 1, none⟩ v1 = w' ∧ Lay w' t b #[x0, v1] ∧ Kept b w w' :=
  ⟨_, rfl, by unfold Lay at h ⊢; simp [World.setCell, Array.getElem?_modify, h], (Kept.refl _ _).setCell 1 _⟩
set_option maxHeartbeats 4000000 in
set_option maxRecDepth 20000 in
theorem rnext_none (oa : Option Addr) (n cn k : Nat) (hk : n ≤ k) (w : World) :
    Calls Tryd.prog 11 #[.agg #[.slice oa n cn, .int .i64 (k : Int)]] w fun e w' => e = .returned (.tuple #[.agg #[.slice oa n cn, .int .i64 (k : Int)], .agg #[.int .u64 0, .int .u64 0, .int .u64 0, .int .u64 0], .int .i64 81]) ∧ Below w.heap.size w w' := by
  have hki : (n : Int) ≤ (k : Int) := by omega
  go_enter Tryd.func11, Tryd.ntmps11
  go_upto_region 1 with fail
  have hs1 : (w.alloc (.cells #[.slice oa n cn, .int .i64 (k : Int)] 36)).heap.size = w.heap.size + 1 := Array.size_push ..
  have hs2 : ((w.alloc (.cells #[.slice oa n cn, .int .i64 (k : Int)] 36)).alloc (.cells #[.slice none 0 0, .int .i64 0] 36)).heap.size = w.heap.size + 1 + 1 := by rw [← hs1]; exact Array.size_push ..
  obtain ⟨N1, e0⟩ : ∃ z, z = w.heap.size := ⟨_, rfl⟩
  obtain ⟨N2, e1⟩ : ∃ z, z = N1 + 1 := ⟨_, rfl⟩
  obtain ⟨N3, e2⟩ : ∃ z, z = N2 + 1 := ⟨_, rfl⟩
  obtain ⟨w1, hw1⟩ : ∃ z : World, z = ((w.alloc (.cells #[.slice oa n cn, .int .i64 (k : Int)] 36)).alloc (.cells #[.slice none 0 0, .int .i64 0] 36)).alloc (.cells #[.int .u64 0, .int .u64 0, .int .u64 0, .int .u64 0] 25) := ⟨_, rfl⟩
  have b1 : Lay w1 36 N1 #[.slice oa n cn, .int .i64 (k : Int)] := by rw [hw1]; exact ((Lay.newAt _ _ _ e0).alloc _).alloc _
  have b2 : Lay w1 36 N2 #[.slice none 0 0, .int .i64 0] := by rw [hw1]; exact (Lay.newAt _ _ _ (by rw [e1, e0, hs1])).alloc _
  have b3 : Blk w1 25 N3 (fun _ => 0) := by rw [hw1]; exact Blk.newAt _ _ _ (fun _ => 0) (by rw [e2, e1, e0, hs2])
  have hb1 : Below w.heap.size w w1 := by rw [hw1]; exact bAlloc (bAlloc (bAlloc (Below.refl _ _) _) _) _
  rw [← hw1]
  try rw [← e0]
  try rw [← e1]
  try rw [← e2]
  have l1 : w.heap.size ≤ N1 := by omega
  have l2 : w.heap.size ≤ N2 := by omega
  have l3 : w.heap.size ≤ N3 := by omega
  have n1_2 : N1 ≠ N2 := by omega
  have n1_3 : N1 ≠ N3 := by omega
  have n2_3 : N2 ≠ N3 := by omega
  clear hw1 e0 e1 e2 hs1 hs2
  have q0 := b1.at (o := 0) rfl; have q1 := b1.at (o := 1) rfl
  go_upto_region 2 with fail
  have f0 := b2.frozen.1; have f1 := b2.frozen.2
  obtain ⟨p0, p1⟩ : (∃ v, w1.cell? ⟨N2, 0, none⟩ = some v) ∧ ∃ v, w1.cell? ⟨N2, 1, none⟩ = some v := ⟨⟨_, b2.at (o := 0) rfl⟩, ⟨_, b2.at (o := 1) rfl⟩⟩
  obtain ⟨p0v, p0⟩ := p0; obtain ⟨p1v, p1⟩ := p1
  obtain ⟨w2, hw2, e2, hk2⟩ := b2.put2 (.slice oa n cn) (.int .i64 (k : Int))
  have e3 := b3.kept n2_3.symm hk2
  have c3 := e3.cell; have g3 := e3.frozen
  obtain ⟨w3, hw3, s3, hk3⟩ := e3.put4 0
  have hw3' : (((w2.setCell ⟨N3, 0, none⟩ (.int .u64 0)).setCell ⟨N3, 1, none⟩ (.int .u64 0)).setCell ⟨N3, 2, none⟩ (.int .u64 0)).setCell ⟨N3, 3, none⟩ (.int .u64 0) = w3 := by
    have := hw3
    rw [limb_zero, limb_zero, limb_zero, limb_zero] at this
    exact this
  have e2' := e2.kept n2_3 hk3
  have s3' : Blk w3 25 N3 (fun _ => 0) := s3.congr (fun i _ => (limb_zero i).symm)
  have hbe := bKept (bKept hb1 l2 hk2) l3 hk3
  have r0 := e2'.at (o := 0) rfl; have r1 := e2'.at (o := 1) rfl; have r3 := s3'.cell
  clear hw3 s3 hk2 hk3
  go_wp2
  refine bodyPost_ret (v := .tuple #[.agg #[.slice oa n cn, .int .i64 (k : Int)], .agg #[.int .u64 0, .int .u64 0, .int .u64 0, .int .u64 0], .int .i64 81]) (by simp [results, Tryd.results11, go_sem, r0, r1, r3]) rfl ⟨rfl, hbe⟩
set_option maxHeartbeats 4000000 in
set_option maxRecDepth 20000 in
theorem rnext_some (oa : Option Addr) (n cn k : Nat) (f : Nat → Nat) (hk : k < n) (hn : n < 9223372036854775807) (w : World) (hv : Es w (.slice oa n cn) n f) :
    Calls Tryd.prog 11 #[.agg #[.slice oa n cn, .int .i64 (k : Int)]] w fun e w' => e = .returned (.tuple #[.agg #[.slice oa n cn, .int .i64 ((k + 1 : Nat) : Int)], .agg #[.int .u64 ((limb 0 (f k) : Nat) : Int), .int .u64 ((limb 1 (f k) : Nat) : Int), .int .u64 ((limb 2 (f k) : Nat) : Int), .int .u64 ((limb 3 (f k) : Nat) : Int)], .int .i64 0]) ∧ Below w.heap.size w w' := by
  have hki : ¬ (n : Int) ≤ (k : Int) := by omega
  have hkl : (k : Int) < (n : Int) := by omega
  obtain ⟨k1, ek1⟩ : ∃ z, z = k + 1 := ⟨_, rfl⟩
  have hw1 : IntKind.i64.wrap ((k : Int) + 1) = (k1 : Int) := by rw [ek1, show (k : Int) + 1 = ((k + 1 : Nat) : Int) from by omega]; exact wrap_i64_nat (k + 1) (by omega)
  rcases hv.open with ⟨_, h0, _⟩ | ⟨ab, ao, rfl, _, _, lab, hc⟩
  · omega
  obtain ⟨x, ex⟩ : ∃ x, x = f k := ⟨_, rfl⟩
  have x0 := hc k hk 0 (by decide); have x1 := hc k hk 1 (by decide); have x2 := hc k hk 2 (by decide); have x3 := hc k hk 3 (by decide)
  rw [Nat.add_zero] at x0
  rw [← ex] at x0 x1 x2 x3
  have HX : Hid (k1 = k + 1 ∧ x = f k) := ⟨ek1, ex⟩
  rw [← ek1, ← ex]
  clear hc ex ek1
  go_enter Tryd.func11, Tryd.ntmps11
  go_upto_region 1 with fail
  have hs1 : (w.alloc (.cells #[.slice (some ⟨ab, ao, none⟩) n cn, .int .i64 (k : Int)] 36)).heap.size = w.heap.size + 1 := Array.size_push ..
  have hs2 : ((w.alloc (.cells #[.slice (some ⟨ab, ao, none⟩) n cn, .int .i64 (k : Int)] 36)).alloc (.cells #[.slice none 0 0, .int .i64 0] 36)).heap.size = w.heap.size + 1 + 1 := by rw [← hs1]; exact Array.size_push ..
  obtain ⟨N1, e0⟩ : ∃ z, z = w.heap.size := ⟨_, rfl⟩
  obtain ⟨N2, e1⟩ : ∃ z, z = N1 + 1 := ⟨_, rfl⟩
  obtain ⟨N3, e2⟩ : ∃ z, z = N2 + 1 := ⟨_, rfl⟩
  obtain ⟨w1, hw1⟩ : ∃ z : World, z = ((w.alloc (.cells #[.slice (some ⟨ab, ao, none⟩) n cn, .int .i64 (k : Int)] 36)).alloc (.cells #[.slice none 0 0, .int .i64 0] 36)).alloc (.cells #[.int .u64 0, .int .u64 0, .int .u64 0, .int .u64 0] 25) := ⟨_, rfl⟩
  have b1 : Lay w1 36 N1 #[.slice (some ⟨ab, ao, none⟩) n cn, .int .i64 (k : Int)] := by rw [hw1]; exact ((Lay.newAt _ _ _ e0).alloc _).alloc _
  have b2 : Lay w1 36 N2 #[.slice none 0 0, .int .i64 0] := by rw [hw1]; exact (Lay.newAt _ _ _ (by rw [e1, e0, hs1])).alloc _
  have b3 : Blk w1 25 N3 (fun _ => 0) := by rw [hw1]; exact Blk.newAt _ _ _ (fun _ => 0) (by rw [e2, e1, e0, hs2])
  have hb1 : Below w.heap.size w w1 := by rw [hw1]; exact bAlloc (bAlloc (bAlloc (Below.refl _ _) _) _) _
  rw [← hw1]
  try rw [← e0]
  try rw [← e1]
  try rw [← e2]
  have l1 : w.heap.size ≤ N1 := by omega
  have l2 : w.heap.size ≤ N2 := by omega
  have l3 : w.heap.size ≤ N3 := by omega
  have n1_2 : N1 ≠ N2 := by omega
  have n1_3 : N1 ≠ N3 := by omega
  have n2_3 : N2 ≠ N3 := by omega
  clear hw1 e0 e1 e2 hs1 hs2
  have y0 := (hb1.cell (p := ⟨ab, ao + k * 4, none⟩) lab).trans x0; have y1 := (hb1.cell (p := ⟨ab, ao + k * 4 + 1, none⟩) lab).trans x1; have y2 := (hb1.cell (p := ⟨ab, ao + k * 4 + 2, none⟩) lab).trans x2; have y3 := (hb1.cell (p := ⟨ab, ao + k * 4 + 3, none⟩) lab).trans x3
  have q0 := b1.at (o := 0) rfl; have q1 := b1.at (o := 1) rfl
  clear x0 x1 x2 x3
  go_upto_region 4 with fail
  obtain ⟨w2, hwn⟩ : ∃ z : World, z = w1.alloc (.cells #[.int .u64 ((limb 0 (x) : Nat) : Int), .int .u64 ((limb 1 (x) : Nat) : Int), .int .u64 ((limb 2 (x) : Nat) : Int), .int .u64 ((limb 3 (x) : Nat) : Int)] 25) := ⟨_, rfl⟩
  obtain ⟨N5, hn5⟩ : ∃ z, z = w1.heap.size := ⟨_, rfl⟩
  have h35 : N3 < N5 := by rw [hn5]; exact b3.lt
  have c5 : Blk w2 25 N5 (fun i => limb i x) := by rw [hwn]; exact Blk.newAt _ _ _ (fun i => limb i x) hn5
  have hbn : Below w1.heap.size w1 w2 := by rw [hwn]; exact bAlloc (Below.refl _ _) _
  have c1 := b1.belowAll hbn
  have c2 := b2.belowAll hbn
  have c3 := b3.belowAll hbn
  have hb2 := bStep hb1 hbn
  rw [← hwn]
  try rw [← hn5]
  clear hwn hn5 hbn hb1 b1 b2 b3
  clear q0 q1 y0 y1 y2 y3
  have q0 := c1.at (o := 0) rfl; have q1 := c1.at (o := 1) rfl; have q2 := c1.frozen.2
  obtain ⟨w3, hw3, d1, hk3⟩ := c1.put1 (.int .i64 (k1 : Int))
  have w1e : Hid (N3 < N5) := h35
  have n1_5 : N1 ≠ N5 := by have := c5.lt; have := c1.lt; intro h; unfold Lay at c1; unfold Blk at c5; rw [h, c5] at c1; simp at c1
  have d2 := c2.kept n1_2.symm hk3; have d3 := c3.kept n1_3.symm hk3; have d5 := c5.kept n1_5.symm hk3
  have hb3 := bKept hb2 l1 hk3
  go_upto_region 5 with fail
  clear hw3 q0 q1 q2 c1 c2 c3 c5 hk3
  refine wp_region_Z (fun w' => Lay w' 36 N1 #[.slice (some ⟨ab, ao, none⟩) n cn, .int .i64 (k1 : Int)] ∧ Blk w' 25 N5 (fun i => limb i x)) 99 (by kernel_rfl) ?_
  obtain ⟨wD, hD⟩ : ∃ z : World, z = w3.drew := ⟨_, rfl⟩
  rw [← hD]
  have hbD : Below w3.heap.size w3 wD := by rw [hD]; exact (Below.refl _ _).drew
  clear hD
  have D1 := d1.belowAll hbD; have D2 := d2.belowAll hbD; have D3 := d3.belowAll hbD; have D5 := d5.belowAll hbD
  have hbE := bStep hb3 hbD
  clear d1 d2 d3 d5 hb3 hbD
  refine wpZ_take (i := 0) (v := .agg #[.slice (some ⟨ab, ao, none⟩) n cn, .int .i64 (k1 : Int)]) 24 rfl rfl (by kernel_rfl) (by kernel_rfl) (by kernel_rfl) (Or.inr (by decide)) (fun _ _ _ h => h) (Or.inl ⟨by rfl, fun w hSw => by (have q0 := hSw.1.at (o := 0) rfl; have q1 := hSw.1.at (o := 1) rfl; clear hSw; go_simp)⟩) ⟨D1, D5⟩ ?_
  simp only [Act.put, List.setIfInBounds_toArray]
  dsimp only [List.set_cons_zero, List.set_cons_succ]
  refine wpZ_take (i := 1) (v := .agg #[.int .u64 ((limb 0 (x) : Nat) : Int), .int .u64 ((limb 1 (x) : Nat) : Int), .int .u64 ((limb 2 (x) : Nat) : Int), .int .u64 ((limb 3 (x) : Nat) : Int)]) 25 rfl rfl (by kernel_rfl) (by kernel_rfl) (by kernel_rfl) (Or.inr (by decide)) (fun _ _ _ h => h) (Or.inl ⟨by rfl, fun w hSw => by (have qq := hSw.2.cell; clear hSw; go_simp)⟩) ⟨D1, D5⟩ ?_
  simp only [Act.put, List.setIfInBounds_toArray]
  dsimp only [List.set_cons_zero, List.set_cons_succ]
  have f0 := D2.frozen.1; have f1 := D2.frozen.2
  have p0 := D2.at (o := 0) rfl; have p1 := D2.at (o := 1) rfl
  obtain ⟨w4, hw4, e2, hk4⟩ := D2.put2 (.slice (some ⟨ab, ao, none⟩) n cn) (.int .i64 (k1 : Int))
  have e1 := D1.kept n1_2 hk4; have e3 := D3.kept n2_3.symm hk4
  have n2_5 : N2 ≠ N5 := by intro h; have a := D2; have b := D5; unfold Lay at a; unfold Blk at b; rw [h, b] at a; simp at a
  have n3_5 : N3 ≠ N5 := by intro h; have a := w1e.out; omega
  have e5 := D5.kept n2_5.symm hk4
  have hb4 := bKept hbE l2 hk4
  refine wpZ_one (i := 2) (by kernel_rfl) rfl (fun K hK => ?_)
  go_simp
  refine hK.out _ _ (fun _ => ⟨e1, e5⟩) ?_
  clear hK K f0 f1 p0 p1 hw4 hk4 D1 D2 D3 D5 hbE
  have c3 := e3.cell; have g3 := e3.frozen
  obtain ⟨w5, hw5, s3, hk5⟩ := e3.put4 x
  have s2 := e2.kept n2_3 hk5; have s1 := e1.kept n1_3 hk5; have s5 := e5.kept n3_5.symm hk5
  have hbe := bKept hb4 l3 hk5
  refine wpZ_one (i := 3) (by kernel_rfl) rfl (fun K hK => ?_)
  go_simp
  refine hK.out _ _ (fun _ => ⟨s1, s5⟩) ?_
  clear hK K c3 g3 hw5 hk5
  refine wpZ_take (i := 4) (v := .int .i64 0) 4 rfl rfl (by kernel_rfl) (by kernel_rfl) (by kernel_rfl) (Or.inr (by decide)) (fun _ _ _ h => h) (Or.inl ⟨by rfl, fun w hSw => by go_simp⟩) ⟨s1, s5⟩ ?_
  simp only [Act.put, List.setIfInBounds_toArray]
  dsimp only [List.set_cons_zero, List.set_cons_succ]
  refine wpZ_done (by kernel_rfl) ?_ _
  have r0 := s2.at (o := 0) rfl; have r1 := s2.at (o := 1) rfl; have r3 := s3.cell
  go_wp2
  refine bodyPost_ret (v := .tuple #[.agg #[.slice (some ⟨ab, ao, none⟩) n cn, .int .i64 (k1 : Int)], .agg #[.int .u64 ((limb 0 (x) : Nat) : Int), .int .u64 ((limb 1 (x) : Nat) : Int), .int .u64 ((limb 2 (x) : Nat) : Int), .int .u64 ((limb 3 (x) : Nat) : Int)], .int .i64 0]) (by simp [results, Tryd.results11, go_sem, r0, r1, r3]) rfl ⟨rfl, hbe⟩
end Go.Proofs.YteheloagjkengaaDoor

/- Append to a list of one's own: what lay in the old block lies there still. -/
namespace Go.Proofs.YteheloagjkengaaDoor
open Go.RowKit

theorem run_append_keep (w : World) (base : Nat) (t ty e : TypeId) (i : TypeInfo) (z : Value) (size bytes : Nat) (ht : Tryd.prog.underlying t = some (.slice e)) (hi : Tryd.prog.info? e = some i) (hz : i.zero = some z)
    (hsize : i.size = size) (hby : i.bytes = bytes) (hzs : z.cells.size = size) (hsz : 0 < size)
    (v : Value) (n : Nat) (xs : List Value) (hown : w.ownsRow base e size v n xs)
    (a : Addr) (m c : Nat) (news : List Value) (hl : news.length = m * size) (hnews : ∀ j u, news[j]? = some u → w.cell? (a.add j) = some u) (h1 : ∀ u ∈ news, u.oneCell' = true)
    (h63 : n + m ≤ maxLen) (hbytes : (n + m) * bytes ≤ 140737488355328) (hbase : base ≤ w.heap.size) :
    ∃ v' w', (Builtin.append_ #[t, t] ty #[v, .slice (some a) m c]).run Tryd.prog w = .ok v' w' ∧ w'.ownsRow base e size v' (n + m) (xs ++ news) ∧ w.grownBy w' v.ownBlock ∧
      ∀ g, v.ownBlock = some g → ∀ j u, xs[j]? = some u → w'.cell? ⟨g, j, none⟩ = some u := by
  obtain ⟨v', w', hr, h2, h3, _⟩ := run_append_own (P := Tryd.prog) w base t ty e i z size bytes ht hi hz hsize hby hzs hsz v n xs hown a m c news hl hnews h1 h63 hbytes hbase
  refine ⟨v', w', hr, h2, h3, ?_⟩
  intro g hg j u hu
  subst hsize
  subst hby
  have hj : j < xs.length := (List.getElem?_eq_some_iff.1 hu).1
  have hadd : ∀ g' : Nat, (⟨g', 0, none⟩ : Addr).add j = ⟨g', j, none⟩ := fun g' => by unfold Addr.add; split <;> simp_all
  have holds := hown.cells hg j u hu
  rw [hadd] at holds
  rcases hown.2 with ⟨rfl, _⟩ | ⟨g', cap, cur, rfl, hbg, hgg, hnc, hcm, hcs, htake⟩
  · simp [Value.ownBlock] at hg
  · simp [Value.ownBlock] at hg
    subst hg
    by_cases hroom : n + m ≤ cap
    · have hfit : n * i.size + news.length ≤ cur.size := by rw [hl, hcs, ← Nat.add_mul]; exact Nat.mul_le_mul_right _ hroom
      have hr' := run_append_room (P := Tryd.prog) w t ty e i ht hi g' n cap cur hgg a m c news hl hnews h1 hroom hfit
      rw [hr] at hr'
      have hv : v' = .slice (some ⟨g', 0, none⟩) (n + m) cap := by injection hr'
      have h5 := h2.cells (g := g') (by rw [hv]; rfl) j u (by rw [List.getElem?_append_left hj]; exact hu)
      rw [hadd] at h5
      exact h5
    · have hsmall : n + m ≤ 9223372036854775807 := by simp only [maxLen] at h63; omega
      have hold : ∀ j u, xs[j]? = some u → w.cell? ((⟨g', 0, none⟩ : Addr).add j) = some u := hown.cells (g := g') rfl
      have hr' := run_append_grow (P := Tryd.prog) w t ty e i z ht hi hz ⟨g', 0, none⟩ n cap xs hown.1 hold a m c news hl hnews (by omega) (by omega) (growslice_fits (by omega) hbytes)
      rw [hr] at hr'
      have hw := (Result.ok.inj hr').2
      have hlt : g' < w.heap.size := (Array.getElem?_eq_some_iff.1 hgg).1
      have hsame : w'.heap[g']? = w.heap[g']? := by rw [hw]; exact heap_alloc_old w.drew _ hlt
      rw [← holds]
      simp only [World.cell?, hsame]
theorem wp_append_keep (w : World) {o : Oper} {a : Act} {K : Act → World → Prop} {Q : Exit → Act → World → Prop} (s x : Operand) (t : TypeId)
    (ho : o.op = .call { callee := .builtin .append, args := #[s, x], argTypes := #[t, t] })
    (base : Nat) (e : TypeId) (i : TypeInfo) (z : Value) (size bytes : Nat) (ht : Tryd.prog.underlying t = some (.slice e)) (hi : Tryd.prog.info? e = some i) (hz : i.zero = some z)
    (hsize : i.size = size) (hby : i.bytes = bytes) (hzs : z.cells.size = size) (hsz : 0 < size)
    (v : Value) (n : Nat) (xs : List Value) (hs : a.eval s = v) (hown : w.ownsRow base e size v n xs)
    (ad : Addr) (m c : Nat) (news : List Value) (hx : a.eval x = .slice (some ad) m c) (hl : news.length = m * size) (hnews : ∀ j u, news[j]? = some u → w.cell? (ad.add j) = some u) (h1 : ∀ u ∈ news, u.oneCell' = true)
    (h63 : n + m ≤ maxLen) (hbytes : (n + m) * bytes ≤ 140737488355328) (hbase : base ≤ w.heap.size)
    (h : ∀ v' w', w'.ownsRow base e size v' (n + m) (xs ++ news) → w.grownBy w' v.ownBlock → (∀ g, v.ownBlock = some g → ∀ j u, xs[j]? = some u → w'.cell? ⟨g, j, none⟩ = some u) → K (a.put o.dst v') w') : o.wp Tryd.prog a w K Q := by
  obtain ⟨v', w', hr, h2, h3, h4⟩ := run_append_keep w base t o.type e i z size bytes ht hi hz hsize hby hzs hsz v n xs hown ad m c news hl hnews h1 h63 hbytes hbase
  unfold Oper.wp execOp
  simp only [ho, resolve, invoke, builtin, Sem.run_bind, Sem.run_pure, Result.andThen_ok, List.map_toArray, List.map_cons, List.map_nil, hs, hx, hr]
  exact h v' w' h2 h3 h4
end Go.Proofs.YteheloagjkengaaDoor

/- Ratios, products, an element's cells. -/
namespace Go.Proofs.YteheloagjkengaaDoor
open Go.RowKit

/-- Ratios, from a block's start on. -/
def RtB (w : World) (g n : Nat) (A B : Nat → Nat) : Prop := g < w.heap.size ∧ ∀ i, i < n → (∀ j, j < 4 → w.cell? ⟨g, i * 8 + j, none⟩ = some (.int .u64 ((limb j (A i) : Nat) : Int))) ∧ ∀ j, j < 4 → w.cell? ⟨g, i * 8 + 4 + j, none⟩ = some (.int .u64 ((limb j (B i) : Nat) : Int))
theorem RtB.belowAll {w w' : World} {g n : Nat} {A B : Nat → Nat} (h : RtB w g n A B) (hb : Below w.heap.size w w') : RtB w' g n A B :=
  ⟨Nat.lt_of_lt_of_le h.1 hb.size, fun i hi => ⟨fun j hj => (hb.cell (p := ⟨g, i * 8 + j, none⟩) h.1).trans ((h.2 i hi).1 j hj), fun j hj => (hb.cell (p := ⟨g, i * 8 + 4 + j, none⟩) h.1).trans ((h.2 i hi).2 j hj)⟩⟩
/-- The product's values: st, then by each ratio. -/
def alz (mu : Nat → Nat → Nat) (iv : Nat → Nat) (st : Nat) (A B : Nat → Nat) : Nat → Nat
  | 0 => st
  | k + 1 => mu (alz mu iv st A B k) (mu (A k) (iv (B k)))
theorem KU.trans {base b : Nat} {x y z : World} (h : KU base b x y) (k : KU base b y z) : KU base b x z :=
  ⟨k.1.trans h.1, k.2.1.trans h.2.1, k.2.2.1.trans h.2.2.1, Nat.le_trans h.2.2.2.1 k.2.2.2.1, fun q hq hne => (k.2.2.2.2 q hq hne).trans (h.2.2.2.2 q hq hne)⟩
theorem ownL_one (w : World) (base x : Nat) (hb : base ≤ w.heap.size) : OwnL (w.alloc (.cells #[.int .u64 ((limb 0 (x) : Nat) : Int), .int .u64 ((limb 1 (x) : Nat) : Int), .int .u64 ((limb 2 (x) : Nat) : Int), .int .u64 ((limb 3 (x) : Nat) : Int)] 25)) base (.slice (some ⟨w.heap.size, 0, none⟩) 1 1) [x] :=
  ⟨rfl, Or.inr ⟨w.heap.size, 1, #[.int .u64 ((limb 0 (x) : Nat) : Int), .int .u64 ((limb 1 (x) : Nat) : Int), .int .u64 ((limb 2 (x) : Nat) : Int), .int .u64 ((limb 3 (x) : Nat) : Int)], rfl, hb, new_blockE _ _, Nat.le_refl _, by decide, rfl, by first | rfl | (unfold els; rfl) | simp [els, List.range_succ]⟩⟩
/-- An element's four cells. -/
def Rd4 (w : World) (b o x : Nat) : Prop := w.cell? ⟨b, o, none⟩ = some (.int .u64 ((limb 0 x : Nat) : Int)) ∧ w.cell? ⟨b, o + 1, none⟩ = some (.int .u64 ((limb 1 x : Nat) : Int)) ∧ w.cell? ⟨b, o + 2, none⟩ = some (.int .u64 ((limb 2 x : Nat) : Int)) ∧ w.cell? ⟨b, o + 3, none⟩ = some (.int .u64 ((limb 3 x : Nat) : Int))
theorem Rd4.below {w w' : World} {b o x m : Nat} (h : Rd4 w b o x) (hb : Below m w w') (hm : b < m) : Rd4 w' b o x :=
  ⟨(hb.cell (p := ⟨b, o, none⟩) hm).trans h.1, (hb.cell (p := ⟨b, o + 1, none⟩) hm).trans h.2.1, (hb.cell (p := ⟨b, o + 2, none⟩) hm).trans h.2.2.1, (hb.cell (p := ⟨b, o + 3, none⟩) hm).trans h.2.2.2⟩
theorem Rd4.same {w w' : World} {b o x : Nat} (h : Rd4 w b o x) (hb : w'.heap[b]? = w.heap[b]?) : Rd4 w' b o x := by
  obtain ⟨h0, h1, h2, h3⟩ := h
  simp only [World.cell?] at h0 h1 h2 h3
  exact ⟨by simp only [World.cell?, hb]; exact h0, by simp only [World.cell?, hb]; exact h1, by simp only [World.cell?, hb]; exact h2, by simp only [World.cell?, hb]; exact h3⟩
/-- The product's list, so far. -/
def alL (mu : Nat → Nat → Nat) (iv : Nat → Nat) (st : Nat) (A B : Nat → Nat) (k : Nat) : List Nat := (List.range (k + 1)).map (alz mu iv st A B)
theorem alL_succ (mu : Nat → Nat → Nat) (iv : Nat → Nat) (st : Nat) (A B : Nat → Nat) (k : Nat) : alL mu iv st A B (k + 1) = alL mu iv st A B k ++ [alz mu iv st A B (k + 1)] := by unfold alL; rw [List.range_succ, List.map_append]; rfl
theorem alL_len (mu : Nat → Nat → Nat) (iv : Nat → Nat) (st : Nat) (A B : Nat → Nat) (k : Nat) : (alL mu iv st A B k).length = k + 1 := by unfold alL; simp
theorem alL_at (mu : Nat → Nat → Nat) (iv : Nat → Nat) (st : Nat) (A B : Nat → Nat) (k : Nat) : (alL mu iv st A B k).getD k 0 = alz mu iv st A B k := by unfold alL; simp [List.getD_eq_getElem?_getD]
theorem invU_ltM (s : Nat) (a : Nat) : invU (modN s) a < modN s := powM_lt (modN s) a (modN s - 2) (by have := (modN_odd s).2; omega)
end Go.Proofs.YteheloagjkengaaDoor

/- Append to a list of one's own, with where it lies behind it. -/
namespace Go.Proofs.YteheloagjkengaaDoor
open Go.RowKit

theorem run_append_keep2 (w : World) (base : Nat) (t ty e : TypeId) (i : TypeInfo) (z : Value) (size bytes : Nat) (ht : Tryd.prog.underlying t = some (.slice e)) (hi : Tryd.prog.info? e = some i) (hz : i.zero = some z)
    (hsize : i.size = size) (hby : i.bytes = bytes) (hzs : z.cells.size = size) (hsz : 0 < size)
    (v : Value) (n : Nat) (xs : List Value) (hown : w.ownsRow base e size v n xs)
    (a : Addr) (m c : Nat) (news : List Value) (hl : news.length = m * size) (hnews : ∀ j u, news[j]? = some u → w.cell? (a.add j) = some u) (h1 : ∀ u ∈ news, u.oneCell' = true)
    (h63 : n + m ≤ maxLen) (hbytes : (n + m) * bytes ≤ 140737488355328) (hbase : base ≤ w.heap.size) :
    ∃ v' w', (Builtin.append_ #[t, t] ty #[v, .slice (some a) m c]).run Tryd.prog w = .ok v' w' ∧ w'.ownsRow base e size v' (n + m) (xs ++ news) ∧ w.grownBy w' v.ownBlock ∧
      (∀ g, v.ownBlock = some g → (∀ j u, xs[j]? = some u → w'.cell? ⟨g, j, none⟩ = some u) ∧ ∀ g', v'.ownBlock = some g' → g' = g ∨ w.heap.size ≤ g') := by
  obtain ⟨v', w', hr, h2, h3, _⟩ := run_append_own (P := Tryd.prog) w base t ty e i z size bytes ht hi hz hsize hby hzs hsz v n xs hown a m c news hl hnews h1 h63 hbytes hbase
  refine ⟨v', w', hr, h2, h3, ?_⟩
  intro g hg
  subst hsize
  subst hby
  have hadd : ∀ g' j : Nat, (⟨g', 0, none⟩ : Addr).add j = ⟨g', j, none⟩ := fun g' j => by unfold Addr.add; split <;> simp_all
  rcases hown.2 with ⟨rfl, _⟩ | ⟨g', cap, cur, rfl, hbg, hgg, hnc, hcm, hcs, htake⟩
  · simp [Value.ownBlock] at hg
  · simp [Value.ownBlock] at hg
    subst hg
    by_cases hroom : n + m ≤ cap
    · have hfit : n * i.size + news.length ≤ cur.size := by rw [hl, hcs, ← Nat.add_mul]; exact Nat.mul_le_mul_right _ hroom
      have hr' := run_append_room (P := Tryd.prog) w t ty e i ht hi g' n cap cur hgg a m c news hl hnews h1 hroom hfit
      rw [hr] at hr'
      have hv : v' = .slice (some ⟨g', 0, none⟩) (n + m) cap := by injection hr'
      refine ⟨fun j u hu => ?_, fun g2 h2' => ?_⟩
      · have hj : j < xs.length := (List.getElem?_eq_some_iff.1 hu).1
        have h5 := h2.cells (g := g') (by rw [hv]; rfl) j u (by rw [List.getElem?_append_left hj]; exact hu)
        rw [hadd] at h5
        exact h5
      · rw [hv] at h2'
        exact Or.inl (Option.some.inj h2').symm
    · have hsmall : n + m ≤ 9223372036854775807 := by simp only [maxLen] at h63; omega
      have hold : ∀ j u, xs[j]? = some u → w.cell? ((⟨g', 0, none⟩ : Addr).add j) = some u := hown.cells (g := g') rfl
      have hr' := run_append_grow (P := Tryd.prog) w t ty e i z ht hi hz ⟨g', 0, none⟩ n cap xs hown.1 hold a m c news hl hnews (by omega) (by omega) (growslice_fits (by omega) hbytes)
      rw [hr] at hr'
      have hw := (Result.ok.inj hr').2
      have hv := (Result.ok.inj hr').1
      have hlt : g' < w.heap.size := (Array.getElem?_eq_some_iff.1 hgg).1
      have hsame : w'.heap[g']? = w.heap[g']? := by rw [hw]; exact heap_alloc_old w.drew _ hlt
      refine ⟨fun j u hu => ?_, fun g2 h2' => ?_⟩
      · have holds := hold j u hu
        rw [hadd] at holds
        rw [← holds]
        simp only [World.cell?, hsame]
      · rw [hv] at h2'
        exact Or.inr (Nat.le_of_eq (Option.some.inj h2'))
theorem wp_append_keep2 (w : World) {o : Oper} {a : Act} {K : Act → World → Prop} {Q : Exit → Act → World → Prop} (s x : Operand) (t : TypeId)
    (ho : o.op = .call { callee := .builtin .append, args := #[s, x], argTypes := #[t, t] })
    (base : Nat) (e : TypeId) (i : TypeInfo) (z : Value) (size bytes : Nat) (ht : Tryd.prog.underlying t = some (.slice e)) (hi : Tryd.prog.info? e = some i) (hz : i.zero = some z)
    (hsize : i.size = size) (hby : i.bytes = bytes) (hzs : z.cells.size = size) (hsz : 0 < size)
    (v : Value) (n : Nat) (xs : List Value) (hs : a.eval s = v) (hown : w.ownsRow base e size v n xs)
    (ad : Addr) (m c : Nat) (news : List Value) (hx : a.eval x = .slice (some ad) m c) (hl : news.length = m * size) (hnews : ∀ j u, news[j]? = some u → w.cell? (ad.add j) = some u) (h1 : ∀ u ∈ news, u.oneCell' = true)
    (h63 : n + m ≤ maxLen) (hbytes : (n + m) * bytes ≤ 140737488355328) (hbase : base ≤ w.heap.size)
    (h : ∀ v' w', w'.ownsRow base e size v' (n + m) (xs ++ news) → w.grownBy w' v.ownBlock → (∀ g, v.ownBlock = some g → (∀ j u, xs[j]? = some u → w'.cell? ⟨g, j, none⟩ = some u) ∧ ∀ g', v'.ownBlock = some g' → g' = g ∨ w.heap.size ≤ g') → K (a.put o.dst v') w') : o.wp Tryd.prog a w K Q := by
  obtain ⟨v', w', hr, h2, h3, h4⟩ := run_append_keep2 w base t o.type e i z size bytes ht hi hz hsize hby hzs hsz v n xs hown ad m c news hl hnews h1 h63 hbytes hbase
  unfold Oper.wp execOp
  simp only [ho, resolve, invoke, builtin, Sem.run_bind, Sem.run_pure, Result.andThen_ok, List.map_toArray, List.map_cons, List.map_nil, hs, hx, hr]
  exact h v' w' h2 h3 h4
end Go.Proofs.YteheloagjkengaaDoor

