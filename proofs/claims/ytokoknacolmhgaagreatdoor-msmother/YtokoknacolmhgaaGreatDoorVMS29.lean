import Derived.Test.YtokoknacolmhgaaGreatDoorVSL
import Derived.Test.YtokoknacolmhgaaGreatDoorVMS19
import Derived.Test.YtokoknacolmhgaaGreatDoorVMS28
set_option maxHeartbeats 8000000
namespace Go.Proofs.YtokoknacolmhgaaGreatDoor
open Go.RowKit
theorem and_1023 (n : Int) : ∃ k : Nat, k ≤ 1023 ∧ bits .and .i64 n 1023 = (k : Int) := by
 refine ⟨(BitVec.ofInt 64 n).toNat &&& 1023, Nat.and_le_right, ?_⟩
 show IntKind.i64.wrap ((BitVec.ofInt 64 n &&& BitVec.ofInt 64 1023).toNat : Int) = _
 rw [BitVec.toNat_and, show (BitVec.ofInt 64 1023).toNat = 1023 from by decide]
 exact wrap_i64_nat _ (Nat.lt_of_le_of_lt Nat.and_le_right (by decide))
set_option maxRecDepth 20000 in
theorem join_bad (B1 B2 c d : Nat) (v u : Value) (hcd : ¬ d = c) (w : World) (hL : Lz w B1 c v) (hM : Lz w B2 d u) :
  Calls Tryz.prog 20 #[.pointer (some ⟨B1, 0, none⟩), .pointer (some ⟨B2, 0, none⟩)] w fun e w' => e = .returned (.int .i64 40) ∧ Below w.heap.size w w' := by
 have EQN : ∀ w, (binOp .eql 36 (.pointer (some ⟨B2, 0, none⟩)) (.pointer none)).run Tryz.prog w = .ok (.bool false) w := fun w => by kernel_rfl
 have hne : ((d : Int) != (c : Int)) = true := by simp; omega
 clear hcd
 go_enter Tryz.func20, Tryz.ntmps20
 go_upto_region 1 with fail
 refine wp_region_Z (fun w' => Lz w' B1 c (v) ∧ Lz w' B2 d (u)) 99 (by kernel_rfl) ?_
 obtain ⟨wD, hD⟩ : ∃ x : World, x = w.drew := ⟨_, rfl⟩
 rw [← hD]
 have hp0_0 : Lz wD B1 c (v) := by rw [hD]; exact hL
 have hp1_0 : Lz wD B2 d (u) := by rw [hD]; exact hM
 have hlow0 : Below w.heap.size w wD := by rw [hD]; exact (Below.refl _ _).drew
 clear hD
 refine zs 0 5 (.pointer (some ⟨B2, 0, none⟩)) ⟨hp0_0, hp1_0⟩ ?_
 refine zs 1 6 (.bool false) ⟨hp0_0, hp1_0⟩ ?_
 refine zs 2 7 (.bool false) ⟨hp0_0, hp1_0⟩ ?_
 refine zs 3 8 (.pointer (some ⟨B2, 0, none⟩)) ⟨hp0_0, hp1_0⟩ ?_
 refine zs 4 9 (.pointer (some ⟨B2, 0, none⟩)) ⟨hp0_0, hp1_0⟩ ?_
 refine zs 5 10 (.pointer (some ⟨B2, 0, none⟩)) ⟨hp0_0, hp1_0⟩ ?_
 refine zT 6 11 (.int .i64 (d : Int)) rfl rfl (fun w hSw => by (obtain ⟨q0, q1, qf⟩ := hSw.2.cells; clear hSw; go_simp)) ⟨hp0_0, hp1_0⟩ ?_
 refine zs 7 12 (.pointer (some ⟨B1, 0, none⟩)) ⟨hp0_0, hp1_0⟩ ?_
 refine zs 8 13 (.pointer (some ⟨B1, 0, none⟩)) ⟨hp0_0, hp1_0⟩ ?_
 refine zs 9 14 (.pointer (some ⟨B1, 0, none⟩)) ⟨hp0_0, hp1_0⟩ ?_
 refine zT 10 15 (.int .i64 (c : Int)) rfl rfl (fun w hSw => by (obtain ⟨q0, q1, qf⟩ := hSw.1.cells; clear hSw; go_simp)) ⟨hp0_0, hp1_0⟩ ?_
 refine zs 11 16 (.bool true) ⟨hp0_0, hp1_0⟩ ?_
 refine zs 12 17 (.bool true) ⟨hp0_0, hp1_0⟩ ?_
 refine zd ?_ _
 go_wp2
 go_ret
 exact ⟨rfl, hlow0⟩
def app2 (T : Nat → Nat × Nat × Nat × Bool) (n : Nat) (V : Nat → Nat × Nat × Nat × Bool) (i : Nat) : Nat × Nat × Nat × Bool := if i < n then T i else V (i - n)
set_option maxRecDepth 20000 in
theorem join_ok (B1 B2 c n q base gb ob cn cq : Nat) (oa : Option Addr) (T V : Nat → Nat × Nat × Nat × Bool) (hn : n + q ≤ 100000) (w : World) (hL : Lz w B1 c (.slice oa n cn)) (hM : Lz w B2 c (.slice (some ⟨gb, ob, none⟩) q cq)) (hown : w.ownsRow base 43 13 (.slice oa n cn) n (trs T n)) (hbase : base ≤ w.heap.size) (hne : (Value.slice oa n cn).ownBlock ≠ some B1) (hne2 : (Value.slice oa n cn).ownBlock ≠ some B2)
  (hgb : gb < w.heap.size) (hV : ∀ i, i < q → ∀ j, j < 13 → w.cell? ⟨gb, ob + i * 13 + j, none⟩ = some (tC (V i) j)) :
  Calls Tryz.prog 20 #[.pointer (some ⟨B1, 0, none⟩), .pointer (some ⟨B2, 0, none⟩)] w fun e w' => (∃ v', e = .returned (.int .i64 0) ∧ Lz w' B1 c v' ∧ w'.ownsRow base 43 13 v' (n + q) (trs (app2 T n V) (n + q)) ∧ v'.ownBlock ≠ some B1) ∧ But w w' B1 (Value.slice oa n cn).ownBlock := by
 have EQN : ∀ w, (binOp .eql 36 (.pointer (some ⟨B2, 0, none⟩)) (.pointer none)).run Tryz.prog w = .ok (.bool false) w := fun w => by kernel_rfl
 obtain ⟨i0, hi, hz0, hz1, hz2⟩ := termInfo
 have HI := (show Hid _ from hi); have HZ := (show Hid _ from And.intro hz0 (And.intro hz1 hz2)); clear hi hz0 hz1 hz2
 have HWI : Hid (IntKind.i64.wrap ((n : Int) + (q : Int)) = (n : Int) + (q : Int)) := by rw [← Int.natCast_add]; exact wrap_i64_nat (n + q) (by omega)
 have HLE : Hid (¬ (100000 : Int) < (n : Int) + (q : Int)) := (by omega : ¬ (100000 : Int) < (n : Int) + (q : Int))
 have HOW : Hid (w.ownsRow base 43 13 (.slice oa n cn) n (trs T n)) := hown
 have HB : Hid (base ≤ w.heap.size ∧ (Value.slice oa n cn).ownBlock ≠ some B1 ∧ (Value.slice oa n cn).ownBlock ≠ some B2 ∧ n + q ≤ 100000) := ⟨hbase, hne, hne2, hn⟩
 have HNW : Hid (∀ w', Below w.heap.size w w' → ∀ j u, (trs V q)[j]? = some u → w'.cell? ((⟨gb, ob, none⟩ : Addr).add j) = some u) := fun w' hb j u hj => trs_cells V q gb ob w w' hb hgb hV j u hj
 clear hown hbase hne hne2 hgb hV hn
 go_enter Tryz.func20, Tryz.ntmps20
 go_upto_region 1 with fail
 refine wp_region_Z (fun w' => Lz w' B1 c (.slice oa n cn) ∧ Lz w' B2 c (.slice (some ⟨gb, ob, none⟩) q cq)) 99 (by kernel_rfl) ?_
 obtain ⟨wD, hD⟩ : ∃ x : World, x = w.drew := ⟨_, rfl⟩
 rw [← hD]
 have hp0_0 : Lz wD B1 c (.slice oa n cn) := by rw [hD]; exact hL
 have hp1_0 : Lz wD B2 c (.slice (some ⟨gb, ob, none⟩) q cq) := by rw [hD]; exact hM
 have hlow0 : Below w.heap.size w wD := by rw [hD]; exact (Below.refl _ _).drew
 clear hD
 refine zs 0 5 (.pointer (some ⟨B2, 0, none⟩)) ⟨hp0_0, hp1_0⟩ ?_
 refine zs 1 6 (.bool false) ⟨hp0_0, hp1_0⟩ ?_
 refine zs 2 7 (.bool false) ⟨hp0_0, hp1_0⟩ ?_
 refine zs 3 8 (.pointer (some ⟨B2, 0, none⟩)) ⟨hp0_0, hp1_0⟩ ?_
 refine zs 4 9 (.pointer (some ⟨B2, 0, none⟩)) ⟨hp0_0, hp1_0⟩ ?_
 refine zs 5 10 (.pointer (some ⟨B2, 0, none⟩)) ⟨hp0_0, hp1_0⟩ ?_
 refine zT 6 11 (.int .i64 (c : Int)) rfl rfl (fun w hSw => by (obtain ⟨q0, q1, qf⟩ := hSw.2.cells; clear hSw; go_simp)) ⟨hp0_0, hp1_0⟩ ?_
 refine zs 7 12 (.pointer (some ⟨B1, 0, none⟩)) ⟨hp0_0, hp1_0⟩ ?_
 refine zs 8 13 (.pointer (some ⟨B1, 0, none⟩)) ⟨hp0_0, hp1_0⟩ ?_
 refine zs 9 14 (.pointer (some ⟨B1, 0, none⟩)) ⟨hp0_0, hp1_0⟩ ?_
 refine zT 10 15 (.int .i64 (c : Int)) rfl rfl (fun w hSw => by (obtain ⟨q0, q1, qf⟩ := hSw.1.cells; clear hSw; go_simp)) ⟨hp0_0, hp1_0⟩ ?_
 refine zs 11 16 (.bool false) ⟨hp0_0, hp1_0⟩ ?_
 refine zs 12 17 (.bool false) ⟨hp0_0, hp1_0⟩ ?_
 refine zd ?_ _
 obtain ⟨W1, eW1⟩ : ∃ W : World, W = wD := ⟨_, rfl⟩
 have bL1 : Lz W1 B1 c (.slice oa n cn) := by rw [eW1]; exact hp0_0
 have bM1 : Lz W1 B2 c (.slice (some ⟨gb, ob, none⟩) q cq) := by rw [eW1]; exact hp1_0
 have hbW1 : Below w.heap.size w W1 := by rw [eW1]; exact hlow0
 rw [← eW1]
 clear eW1
 go_upto_region 3 with fail
 refine wp_region_Z (fun w' => Lz w' B1 c (.slice oa n cn) ∧ Lz w' B2 c (.slice (some ⟨gb, ob, none⟩) q cq)) 99 (by kernel_rfl) ?_
 obtain ⟨wE, hD⟩ : ∃ x : World, x = W1.drew := ⟨_, rfl⟩
 rw [← hD]
 have hq0_0 : Lz wE B1 c (.slice oa n cn) := by rw [hD]; exact bL1
 have hq1_0 : Lz wE B2 c (.slice (some ⟨gb, ob, none⟩) q cq) := by rw [hD]; exact bM1
 have hlox0 : Below W1.heap.size W1 wE := by rw [hD]; exact (Below.refl _ _).drew
 clear hD
 refine zs 0 18 (.pointer (some ⟨B1, 0, none⟩)) ⟨hq0_0, hq1_0⟩ ?_
 refine zs 1 19 (.pointer (some ⟨B1, 0, none⟩)) ⟨hq0_0, hq1_0⟩ ?_
 refine zs 2 20 (.pointer (some ⟨B1, 1, none⟩)) ⟨hq0_0, hq1_0⟩ ?_
 refine zT 3 21 (.slice oa n cn) rfl rfl (fun w hSw => by (obtain ⟨q0, q1, qf⟩ := hSw.1.cells; clear hSw; go_simp)) ⟨hq0_0, hq1_0⟩ ?_
 refine zs 4 22 (.int .i64 (n : Int)) ⟨hq0_0, hq1_0⟩ ?_
 refine zs 5 23 (.pointer (some ⟨B2, 0, none⟩)) ⟨hq0_0, hq1_0⟩ ?_
 refine zs 6 24 (.pointer (some ⟨B2, 0, none⟩)) ⟨hq0_0, hq1_0⟩ ?_
 refine zs 7 25 (.pointer (some ⟨B2, 1, none⟩)) ⟨hq0_0, hq1_0⟩ ?_
 refine zT 8 26 (.slice (some ⟨gb, ob, none⟩) q cq) rfl rfl (fun w hSw => by (obtain ⟨q0, q1, qf⟩ := hSw.2.cells; clear hSw; go_simp)) ⟨hq0_0, hq1_0⟩ ?_
 refine zs 9 27 (.int .i64 (q : Int)) ⟨hq0_0, hq1_0⟩ ?_
 refine zT 10 28 (.int .i64 ((n : Int) + (q : Int))) rfl rfl (fun w hSw => by (go_simp; exact HWI.out)) ⟨hq0_0, hq1_0⟩ ?_
 refine zT 11 29 (.bool false) rfl rfl (fun w hSw => by (have hle := HLE.out; go_simp)) ⟨hq0_0, hq1_0⟩ ?_
 refine zd ?_ _
 obtain ⟨W2, eW2⟩ : ∃ W : World, W = wE := ⟨_, rfl⟩
 have bL2 : Lz W2 B1 c (.slice oa n cn) := by rw [eW2]; exact hq0_0
 have bM2 : Lz W2 B2 c (.slice (some ⟨gb, ob, none⟩) q cq) := by rw [eW2]; exact hq1_0
 have hbW2 : Below w.heap.size w W2 := by rw [eW2]; exact bStep hbW1 hlox0
 rw [← eW2]
 clear eW2
 go_upto_region 5 with fail
 refine wp_region_Z (fun w' => Lz w' B1 c (.slice oa n cn) ∧ Lz w' B2 c (.slice (some ⟨gb, ob, none⟩) q cq)) 12 (by kernel_rfl) ?_
 obtain ⟨wF, hD⟩ : ∃ x : World, x = W2.drew := ⟨_, rfl⟩
 rw [← hD]
 have hr0_0 : Lz wF B1 c (.slice oa n cn) := by rw [hD]; exact bL2
 have hr1_0 : Lz wF B2 c (.slice (some ⟨gb, ob, none⟩) q cq) := by rw [hD]; exact bM2
 have hloy0 : Below W2.heap.size W2 wF := by rw [hD]; exact (Below.refl _ _).drew
 clear hD
 refine zs 0 30 (.pointer (some ⟨B1, 0, none⟩)) ⟨hr0_0, hr1_0⟩ ?_
 refine zs 1 31 (.pointer (some ⟨B1, 0, none⟩)) ⟨hr0_0, hr1_0⟩ ?_
 refine zs 2 32 (.pointer (some ⟨B1, 0, none⟩)) ⟨hr0_0, hr1_0⟩ ?_
 refine zs 3 33 (.pointer (some ⟨B1, 1, none⟩)) ⟨hr0_0, hr1_0⟩ ?_
 refine zT 4 34 (.slice oa n cn) rfl rfl (fun w hSw => by (obtain ⟨q0, q1, qf⟩ := hSw.1.cells; clear hSw; go_simp)) ⟨hr0_0, hr1_0⟩ ?_
 refine zs 5 35 (.pointer (some ⟨B2, 0, none⟩)) ⟨hr0_0, hr1_0⟩ ?_
 refine zs 6 36 (.pointer (some ⟨B2, 0, none⟩)) ⟨hr0_0, hr1_0⟩ ?_
 refine zs 7 37 (.pointer (some ⟨B2, 1, none⟩)) ⟨hr0_0, hr1_0⟩ ?_
 refine zT 8 38 (.slice (some ⟨gb, ob, none⟩) q cq) rfl rfl (fun w hSw => by (obtain ⟨q0, q1, qf⟩ := hSw.2.cells; clear hSw; go_simp)) ⟨hr0_0, hr1_0⟩ ?_
 refine zo 9 rfl (fun K hK => ?_)
 have hbwB := bStep hbW2 hloy0
 have hownB : wF.ownsRow base 43 13 (.slice oa n cn) n (trs T n) := own_belowAll HOW.out hbwB
 rw [if_pos (show Region.wanted _ _ = true from rfl)]
 refine wp_append_own wF _ _ 22 rfl base 43 i0 (.agg #[.int .u64 0, .int .u64 0, .int .u64 0, .int .u64 0, .int .u64 0, .int .u64 0, .int .u64 0, .int .u64 0, .int .u64 0, .int .u64 0, .int .u64 0, .int .u64 0, .bool false]) 13 104 Tryz.underlying22 HI.out HZ.out.1 HZ.out.2.1 HZ.out.2.2 rfl (by decide) (.slice oa n cn) n (trs T n) rfl hownB ⟨gb, ob, none⟩ q cq (trs V q) rfl (trs_len _ _) (HNW.out _ hbwB) (trs_one _ _) ?c1 ?c2 ?c3 ?_
 case c1 => have := HB.out.2.2.2; unfold maxLen; omega
 case c2 => have := HB.out.2.2.2; omega
 case c3 => exact Nat.le_trans HB.out.1 hbwB.size
 intro v' wA hownA hgrow _
 rw [trs_add] at hownA
 have hV' : ∃ oa' cn', v' = .slice oa' (n + q) cn' := by
  rcases hownA.2 with ⟨rfl, h⟩ | ⟨g, cap, cur, rfl, _⟩
  ·rw [h]; exact ⟨_, _, rfl⟩
  ·exact ⟨_, _, rfl⟩
 obtain ⟨oa', cn', rfl⟩ := hV'
 have hnB : some B1 ≠ (.slice oa n cn : Value).ownBlock := fun h => HB.out.2.1 h.symm
 have hnC : some B2 ≠ (.slice oa n cn : Value).ownBlock := fun h => HB.out.2.2.1 h.symm
 have hr0_1 : Lz wA B1 c (.slice oa n cn) := by unfold Lz; rw [hgrow.block B1 (hr0_0).lt hnB]; exact hr0_0
 have hr1_1 : Lz wA B2 c (.slice (some ⟨gb, ob, none⟩) q cq) := by unfold Lz; rw [hgrow.block B2 (hr1_0).lt hnC]; exact hr1_0
 have hbut : But w wA B1 (Value.slice oa n cn).ownBlock := ⟨hgrow.os.trans hbwB.os, hgrow.tape.trans hbwB.tape, hgrow.output.trans hbwB.output, Nat.le_trans hbwB.size hgrow.size, fun k hk _ h2 => (hgrow.block k (Nat.lt_of_lt_of_le hk hbwB.size) h2).trans (hbwB.block k hk)⟩
 have hvB : (Value.slice oa' (n + q) cn').ownBlock ≠ some B1 := own_new_ne hgrow hownA hr0_1
 have HOA := (show Hid _ from hownA); have HBU : Hid (But w wA B1 (Value.slice oa n cn).ownBlock) := hbut; have HVB : Hid ((Value.slice oa' (n + q) cn').ownBlock ≠ some B1) := hvB
 clear hownA hgrow hbut hvB hnB hnC hownB hbwB
 go_simp
 refine hK.out _ _ (fun _ => ⟨hr0_1, hr1_1⟩) ?_
 clear hK K
 refine zo 10 rfl (fun K hK => ?_)
 go_simp
 refine hK.out _ _ (fun _ => ⟨hr0_1, hr1_1⟩) ?_
 clear hK K
 refine zs 11 41 (.pointer (some ⟨B1, 1, none⟩)) ⟨hr0_1, hr1_1⟩ ?_
 refine zo 12 rfl (fun K hK => ?_)
 obtain ⟨g0, g1, gf⟩ := (hr0_1).cells
 go_simp
 refine hK.out _ _ (fun h => absurd rfl h) ?_
 clear hK K
 refine zd ?_ _
 go_wp2
 go_ret
 have hOS := own_set (u := .slice oa' (n + q) cn') HOA.out HVB.out
 first | exact ⟨⟨.slice oa' (n + q) cn', rfl, (hr0_1).set _, hOS, HVB.out⟩, but_set HBU.out _⟩ | exact ⟨⟨rfl, .slice oa' (n + q) cn', (hr0_1).set _, hOS, HVB.out⟩, but_set HBU.out _⟩
theorem But.keep {w w' : World} {B b : Nat} {row : Option Nat} (h : But w w' B row) (hb : b < w.heap.size) (h1 : b ≠ B) (h2 : some b ≠ row) : w'.heap[b]? = w.heap[b]? := h.2.2.2.2 b hb h1 h2
theorem But.grown {w w' : World} {B : Nat} {row : Option Nat} (h : But w w' B row) (hr : row = none) : w.grownBy w' (some B) := ⟨h.1, h.2.1, h.2.2.1, h.2.2.2.1, fun k hk hne => h.2.2.2.2 k hk (fun e => hne (by rw [e])) (by rw [hr]; intro e; cases e)⟩
theorem but_below {w w' : World} {m B : Nat} (h : But w w' B none) (hm : m ≤ B) (hs : m ≤ w.heap.size) : Below m w w' := ⟨h.1, h.2.1, h.2.2.1, h.2.2.2.1, fun k hk => h.2.2.2.2 k (by omega) (by omega) (by intro e; cases e)⟩
theorem own_ne {w : World} {base B c n : Nat} {v u : Value} {xs : List Value} (h : w.ownsRow base 43 13 v n xs) (hL : Lz w B c u) : v.ownBlock ≠ some B := by
 rcases h.2 with ⟨rfl, _⟩ | ⟨g, cap, cur, rfl, _, hg, _⟩
 ·intro e; cases e
 ·intro e
  have e2 : g = B := Option.some.inj e
  subst e2
  unfold Lz at hL
  rw [hL] at hg
  cases hg
theorem own_sl {w : World} {base n : Nat} {v : Value} {xs : List Value} (h : w.ownsRow base 43 13 v n xs) : ∃ oa cn, v = .slice oa n cn := by
 rcases h.2 with ⟨rfl, rfl⟩ | ⟨g, cap, cur, rfl, _⟩
 ·exact ⟨_, _, rfl⟩
 ·exact ⟨_, _, rfl⟩
theorem own_sl1 {w : World} {base : Nat} {v : Value} {xs : List Value} (h : w.ownsRow base 43 13 v 1 xs) : ∃ g cn, v = .slice (some ⟨g, 0, none⟩) 1 cn := by
 rcases h.2 with ⟨_, h0⟩ | ⟨g, cap, cur, rfl, _⟩
 ·cases h0
 ·exact ⟨_, _, rfl⟩
set_option maxRecDepth 20000 in
theorem moth_in (c d k : Nat) (n : Int) (hc : c < 4) (hd : d < 4) (hk : k < 115792089237316195423570985008687907853269984665640564039457584007913129639936) (w : World) (hg : GlobC w) :
  Calls Tryz.prog 6 #[.int .i64 (c : Int), .int .i64 (d : Int), .agg #[.int .u64 (limb 0 k), .int .u64 (limb 1 k), .int .u64 (limb 2 k), .int .u64 (limb 3 k)], .int .i64 n] w fun e w' => e = .returned (.bool true) ∧ Below w.heap.size w w' := by
 have HG0 : Hid (GlobC w) := hg; have Hc : Hid (c < 4) := hc; have Hd : Hid (d < 4) := hd; have HKK : Hid (k < 115792089237316195423570985008687907853269984665640564039457584007913129639936) := hk
 obtain ⟨k1, hk1, hand⟩ := and_1023 n
 have HK1 : Hid (k1 ≤ 1023) := hk1; have HAND : Hid (bits .and .i64 n 1023 = (k1 : Int)) := hand
 have hc0 : ¬ (c : Int) < 0 := by omega
 have hc3 : ¬ (3 : Int) < (c : Int) := by omega
 have hd0 : ¬ (d : Int) < 0 := by omega
 have hd3 : ¬ (3 : Int) < (d : Int) := by omega
 clear hg hc hd hk hk1 hand
 go_enter Tryz.func6, Tryz.ntmps6
 go_upto_region 1 with fail
 obtain ⟨N6, eN6⟩ : ∃ N, N = w.heap.size := ⟨_, rfl⟩
 obtain ⟨w0, hw0⟩ : ∃ w0 : World, w0 = w.alloc (.cells #[.int .u64 (limb 0 k), .int .u64 (limb 1 k), .int .u64 (limb 2 k), .int .u64 (limb 3 k)] 28) := ⟨_, rfl⟩
 have bk0 : Blk w0 28 N6 (fun i => limb i k) := by rw [hw0, eN6]; exact Blk.newAt _ _ _ (fun i => limb i k) (by simp)
 have hb0 : Below w.heap.size w w0 := by rw [hw0]; exact (Below.refl _ _).alloc (Nat.le_refl _) _
 rw [← hw0]
 rw [← eN6]
 clear hw0 eN6
 have HGa : Hid (GlobC w0) := HG0.out.below hb0
 go_wp2_with fail
 refine (alive5_any _ HGa.out).mono ?_
 rintro e w1 ⟨rfl, hb1⟩
 have bk1 := bk0.belowAll hb1; have hbw1 := bStep hb0 hb1
 clear bk0 hb0 hb1 HGa
 have HG1 : Hid (GlobC w1) := HG0.out.below hbw1
 go_wp2_with fail
 refine (new_in c Hc.out _ HG1.out).mono ?_
 rintro e w2 ⟨B1, rfl, hL2, lB1, hb2⟩
 have bk2 := bk1.belowAll hb2; have hbw2 := bStep hbw1 hb2
 have HN61 : Hid (N6 < B1) := Nat.lt_of_lt_of_le bk1.lt lB1
 have HWB : Hid (w.heap.size ≤ B1) := Nat.le_trans hbw1.size lB1
 clear bk1 hbw1 hb2 HG1 lB1
 have HG2 : Hid (GlobC w2) := HG0.out.below hbw2
 go_wp2_with fail
 refine (new_in d Hd.out _ HG2.out).mono ?_
 rintro e w3 ⟨B2, rfl, hM3, lB2, hb3⟩
 have bk := bk2.belowAll hb3; have hbw3 := bStep hbw2 hb3; have hL3 := hL2.belowAll hb3
 have HB12 : Hid (B1 < B2) := Nat.lt_of_lt_of_le hL2.lt lB2
 clear bk2 hbw2 hb3 HG2 lB2 hL2
 have HG3 : Hid (GlobC w3) := HG0.out.below hbw3
 have H3 : Hid (3 ≤ B1) := Nat.le_trans HG0.out.1.1 HWB.out
 have EQ1 : ∀ w, (binOp .eql 36 (.pointer (some ⟨B1, 0, none⟩)) (.pointer none)).run Tryz.prog w = .ok (.bool false) w := fun w => by kernel_rfl
 have EQ2 : ∀ w, (binOp .eql 36 (.pointer (some ⟨B2, 0, none⟩)) (.pointer none)).run Tryz.prog w = .ok (.bool false) w := fun w => by kernel_rfl
 have HAD : Hid (∀ x y, x < 115792089237316195423570985008687907853269984665640564039457584007913129639936 → y < 115792089237316195423570985008687907853269984665640564039457584007913129639936 → onC c x y false → ∀ w', Below w3.heap.size w3 w' → Calls Tryz.prog 16 #[.pointer (some ⟨B1, 0, none⟩), .agg #[.int .u64 (limb 0 k), .int .u64 (limb 1 k), .int .u64 (limb 2 k), .int .u64 (limb 3 k)], .agg #[.int .u64 (limb 0 x), .int .u64 (limb 1 x), .int .u64 (limb 2 x), .int .u64 (limb 3 x), .int .u64 (limb 0 y), .int .u64 (limb 1 y), .int .u64 (limb 2 y), .int .u64 (limb 3 y), .bool false]] w' fun e w'' => (∃ v', e = .returned (.int .i64 0) ∧ Lz w'' B1 c v' ∧ w''.ownsRow w'.heap.size 43 13 v' 1 (trs (put (fun _ => (0, 0, 0, false)) 0 (k % modN (xc c), x, y, false)) 1) ∧ v'.ownBlock ≠ some B1) ∧ But w' w'' B1 none) := fun x y hx hy hon w' hb => add_ok B1 c (xc c) k x y 0 w'.heap.size false (.slice none 0 0) _ Hc.out (xor_c c Hc.out) (xc_lt Hc.out) HKK.out hx hy hon (by decide) w' (HG3.out.below hb) (hL3.belowAll hb) ⟨rfl, Or.inl ⟨rfl, rfl⟩⟩ (Nat.le_refl _) (by intro h; cases h)
 have HN6 : Hid (N6 ≠ B1) := (by have := HN61.out; omega : N6 ≠ B1)
 go_upto_region 9 with fail
 refine wp_region_Z (fun w' => Blk w' 28 N6 (fun i => limb i k)) 99 (by kernel_rfl) ?_
 obtain ⟨wD, hD⟩ : ∃ x : World, x = w3.drew := ⟨_, rfl⟩
 rw [← hD]
 have hp0_0 : Blk wD 28 N6 (fun i => limb i k) := by rw [hD]; exact bk
 have hlow0 : Below w3.heap.size w3 wD := by rw [hD]; exact (Below.refl _ _).drew
 clear hD
 refine zs 0 46 (.pointer (some ⟨B1, 0, none⟩)) hp0_0 ?_
 refine zT 1 47 (.agg #[.int .u64 (limb 0 k), .int .u64 (limb 1 k), .int .u64 (limb 2 k), .int .u64 (limb 3 k)]) rfl rfl (fun w hSw => by (have qq := (hSw).cell; clear hSw; go_simp)) hp0_0 ?_
 refine zs 2 48 (.int .i64 (c : Int)) hp0_0 ?_
 refine zs 3 49 (.int .i64 n) hp0_0 ?_
 refine zT 4 50 (.int .i64 (k1 : Int)) rfl rfl (fun w hSw => by (have hx := HAND.out; go_simp)) hp0_0 ?_
 refine zo 5 rfl (fun K hK => ?_)
 go_simp
 refine (rsome_any c k1 Hc.out HK1.out wD).mono ?_
 rintro e wK1 ⟨⟨x1, y1, hx1, hy1, hon1, rfl⟩, hbK1⟩
 have hlow1 := bStep hlow0 hbK1
 have hp0_1 := (hp0_0).belowAll hbK1
 go_wp2_with fail
 refine hK.out _ _ (fun _ => hp0_1) ?_
 clear hK K
 refine zo 6 rfl (fun K hK => ?_)
 go_simp
 refine (HAD.out x1 y1 hx1 hy1 hon1 wK1 hlow1).mono ?_
 rintro e wA ⟨⟨v', rfl, hLA, hoA, hvA⟩, hbA⟩
 have hSA : Blk wA 28 N6 (fun i => limb i k) := (hp0_1).of_block (hbA.2.2.2.2 N6 (hp0_1).lt HN6.out (by intro h; cases h))
 go_wp2_with fail
 refine hK.out _ _ (fun _ => hSA) ?_
 clear hK K
 refine zd ?_ _
 have hbD := hlow1
 obtain ⟨v1, ev1⟩ : ∃ z, z = v' := ⟨_, rfl⟩
 rw [← ev1] at hLA hoA hvA
 clear ev1
 obtain ⟨w4, ew4⟩ : ∃ z, z = wA := ⟨_, rfl⟩
 rw [← ew4] at hLA hoA hbA hSA ⊢
 clear ew4
 have hM4 : Lz w4 B2 d (.slice none 0 0) := by unfold Lz; rw [hbA.keep (hM3.belowAll hbD).lt (by have := HB12.out; omega) (by intro h; cases h)]; exact hM3.belowAll hbD
 have hbw4 : Below w.heap.size w w4 := hbw3.trans ((belowLe hbD hbw3.size).trans (but_below hbA HWB.out (Nat.le_trans hbw3.size hbD.size)))
 have HO1 : Hid (∃ base TV, w.heap.size ≤ base ∧ w4.ownsRow base 43 13 v1 1 (trs TV 1)) := ⟨_, _, Nat.le_trans hbw3.size hbD.size, hoA⟩
 have HV1 : Hid (v1.ownBlock ≠ some B1 ∧ v1.ownBlock ≠ some B2) := ⟨hvA, own_ne hoA hM4⟩
 have HG4 : Hid (GlobC w4) := HG0.out.below hbw4
 have HL4 : Hid (Lz w4 B1 c v1) := hLA
 have HAD2 : Hid (∀ x y, x < 115792089237316195423570985008687907853269984665640564039457584007913129639936 → y < 115792089237316195423570985008687907853269984665640564039457584007913129639936 → onC d x y false → ∀ w', Below w4.heap.size w4 w' → Calls Tryz.prog 16 #[.pointer (some ⟨B2, 0, none⟩), .agg #[.int .u64 (limb 0 k), .int .u64 (limb 1 k), .int .u64 (limb 2 k), .int .u64 (limb 3 k)], .agg #[.int .u64 (limb 0 x), .int .u64 (limb 1 x), .int .u64 (limb 2 x), .int .u64 (limb 3 x), .int .u64 (limb 0 y), .int .u64 (limb 1 y), .int .u64 (limb 2 y), .int .u64 (limb 3 y), .bool false]] w' fun e w'' => (∃ v', e = .returned (.int .i64 0) ∧ Lz w'' B2 d v' ∧ w''.ownsRow w'.heap.size 43 13 v' 1 (trs (put (fun _ => (0, 0, 0, false)) 0 (k % modN (xc d), x, y, false)) 1) ∧ v'.ownBlock ≠ some B2) ∧ But w' w'' B2 none) := fun x y hx hy hon w' hb => add_ok B2 d (xc d) k x y 0 w'.heap.size false (.slice none 0 0) _ Hd.out (xor_c d Hd.out) (xc_lt Hd.out) HKK.out hx hy hon (by decide) w' (HG4.out.below hb) (hM4.belowAll hb) ⟨rfl, Or.inl ⟨rfl, rfl⟩⟩ (Nat.le_refl _) (by intro h; cases h)
 have HN62 : Hid (N6 ≠ B2) := (by have := HN61.out; have := HB12.out; omega : N6 ≠ B2)
 have bk4 := hSA
 clear hSA bk hLA hoA hvA hbA hbD hL3 hM3 hbw3 HG3 HAD HN6 hx1 hy1 hon1
 go_upto_region 10 with fail
 have HAD := HAD2; have HN6 := HN62; have bk := bk4
 clear HAD2 HN62 bk4
 refine wp_region_Z (fun w' => Blk w' 28 N6 (fun i => limb i k)) 99 (by kernel_rfl) ?_
 obtain ⟨wD, hD⟩ : ∃ x : World, x = w4.drew := ⟨_, rfl⟩
 rw [← hD]
 have hp0_0 : Blk wD 28 N6 (fun i => limb i k) := by rw [hD]; exact bk
 have hlow0 : Below w4.heap.size w4 wD := by rw [hD]; exact (Below.refl _ _).drew
 clear hD
 refine zs 0 53 (.pointer (some ⟨B2, 0, none⟩)) hp0_0 ?_
 refine zT 1 54 (.agg #[.int .u64 (limb 0 k), .int .u64 (limb 1 k), .int .u64 (limb 2 k), .int .u64 (limb 3 k)]) rfl rfl (fun w hSw => by (have qq := (hSw).cell; clear hSw; go_simp)) hp0_0 ?_
 refine zs 2 55 (.int .i64 (d : Int)) hp0_0 ?_
 refine zs 3 56 (.int .i64 n) hp0_0 ?_
 refine zT 4 57 (.int .i64 (k1 : Int)) rfl rfl (fun w hSw => by (have hx := HAND.out; go_simp)) hp0_0 ?_
 refine zo 5 rfl (fun K hK => ?_)
 go_simp
 refine (rsome_any d k1 Hd.out HK1.out wD).mono ?_
 rintro e wK1 ⟨⟨x1, y1, hx1, hy1, hon1, rfl⟩, hbK1⟩
 have hlow1 := bStep hlow0 hbK1
 have hp0_1 := (hp0_0).belowAll hbK1
 go_wp2_with fail
 refine hK.out _ _ (fun _ => hp0_1) ?_
 clear hK K
 refine zo 6 rfl (fun K hK => ?_)
 go_simp
 refine (HAD.out x1 y1 hx1 hy1 hon1 wK1 hlow1).mono ?_
 rintro e wA ⟨⟨v', rfl, hLA, hoA, hvA⟩, hbA⟩
 have hSA : Blk wA 28 N6 (fun i => limb i k) := (hp0_1).of_block (hbA.2.2.2.2 N6 (hp0_1).lt HN6.out (by intro h; cases h))
 go_wp2_with fail
 refine hK.out _ _ (fun _ => hSA) ?_
 clear hK K
 refine zd ?_ _
 have hbD := hlow1
 obtain ⟨u1, eu1⟩ : ∃ z, z = v' := ⟨_, rfl⟩
 rw [← eu1] at hLA hoA hvA
 clear eu1
 obtain ⟨w5, ew5⟩ : ∃ z, z = wA := ⟨_, rfl⟩
 rw [← ew5] at hLA hoA hbA hSA ⊢
 clear ew5 hSA
 have hL5 : Lz w5 B1 c v1 := by unfold Lz; rw [hbA.keep (HL4.out.belowAll hbD).lt (by have := HB12.out; omega) (by intro h; cases h)]; exact HL4.out.belowAll hbD
 obtain ⟨base1, TV, lbase1, hob1⟩ := HO1.out
 have hO5 := (own_belowAll hob1 hbD).kept (hbA.grown rfl) (by cases h : v1.ownBlock with | none => exact Or.inl rfl | some j => exact Or.inr (by rw [← h]; exact HV1.out.2))
 have hbw5 : Below w.heap.size w w5 := hbw4.trans ((belowLe hbD hbw4.size).trans (but_below hbA (Nat.le_trans HWB.out (Nat.le_of_lt HB12.out)) (Nat.le_trans hbw4.size hbD.size)))
 obtain ⟨TU, eTU⟩ : ∃ z, z = put (fun _ => (0, 0, 0, false)) 0 (k % modN (xc d), x1, y1, false) := ⟨_, rfl⟩
 rw [← eTU] at hoA
 obtain ⟨ov, cv, rfl⟩ := own_sl hO5
 obtain ⟨gu, cu, rfl⟩ := own_sl1 hoA
 have HU5 : Hid (Rs w5 (.slice (some ⟨gu, 0, none⟩) 1 cu) 13 1 (fun i => tC (TU i))) := own_Rs hoA
 have HV5 : Hid (Rs w5 (.slice ov 1 cv) 13 1 (fun i => tC (TV i))) := own_Rs hO5
 have HO5 : Hid (w5.ownsRow base1 43 13 (.slice ov 1 cv) 1 (trs TV 1)) := hO5
 have HOLD : Hid (∀ j, (Value.slice ov 1 cv).ownBlock = some j → ¬ j < w.heap.size) := fun j hj => by have := (hO5.lt j hj).1; omega
 have HHM : Hid (Lz w5 B2 d (.slice (some ⟨gu, 0, none⟩) 1 cu)) := hLA
 have HHL : Hid (Lz w5 B1 c (.slice ov 1 cv)) := hL5
 clear hLA hoA hvA hbA hbD hL5 hob1 hO5 HL4 HG4 hM4 hbw4 bk HAD hx1 hy1 hon1 eTU lbase1
 by_cases hcd : d = c
 ·subst hcd
  obtain ⟨gu', ou', e1, lgu, hcell⟩ := HU5.out.at (k := 0) (by decide)
  have hb1' : base1 ≤ w5.heap.size := by
   rcases HO5.out.2 with ⟨h, h0⟩ | ⟨g, cap, cur, h, hb, hg, _⟩
   ·cases h0
   ·have := (Array.getElem?_eq_some_iff.1 hg).1; omega
  cases e1
  go_wp2_with fail
  refine (join_ok B1 B2 d 1 1 base1 gu 0 cv cu ov _ _ (by decide) _ HHL.out HHM.out HO5.out hb1' HV1.out.1 HV1.out.2 lgu (fun i hi => by rw [show i = 0 from by omega]; exact hcell)).mono ?_
  rintro e w6 ⟨⟨v6, rfl, hL6, ho6, _⟩, hbu6⟩
  have hbw6 : Below w.heap.size w w6 := hbw5.trans ⟨hbu6.1, hbu6.2.1, hbu6.2.2.1, hbu6.2.2.2.1, fun j hj => hbu6.2.2.2.2 j (Nat.lt_of_lt_of_le hj hbw5.size) (by have := HWB.out; omega) (fun e => HOLD.out j e.symm hj)⟩
  have HR6 : Hid (Rs w6 v6 13 2 (fun i => tC (app2 TV 1 TU i))) := own_Rs ho6
  have HHL6 : Hid (Lz w6 B1 d v6) := hL6
  clear hbu6 hL6 ho6
  go_wp2_with fail
  refine (terms_any B1 d 2 v6 _ (by decide) _ HHL6.out HR6.out).mono ?_
  rintro e w7 ⟨v7, rfl, ho7, hb7⟩
  obtain ⟨o7, c7, rfl⟩ := own_sl ho7
  have hbw7 := bStep hbw6 hb7
  clear ho7 hb7 hbw6
  go_wp2
  go_ret
  exact ⟨rfl, hbw7⟩
 ·have hne : ((c : Int) == (d : Int)) = false := by simp; omega
  have HCD : Hid (¬ d = c) := hcd
  clear hcd
  go_wp2_with fail
  refine (join_bad B1 B2 c d _ _ HCD.out _ HHL.out HHM.out).mono ?_
  rintro e w6 ⟨rfl, hb6⟩
  have hbw6 := bStep hbw5 hb6
  have HL6 : Hid (Lz w6 B1 c (.slice ov 1 cv)) := HHL.out.belowAll hb6; have HM6 : Hid (Lz w6 B2 d (.slice (some ⟨gu, 0, none⟩) 1 cu)) := HHM.out.belowAll hb6
  have HRV6 : Hid (Rs w6 (.slice ov 1 cv) 13 1 (fun i => tC (TV i))) := HV5.out.below hb6; have HRU6 : Hid (Rs w6 (.slice (some ⟨gu, 0, none⟩) 1 cu) 13 1 (fun i => tC (TU i))) := HU5.out.below hb6
  clear hb6
  go_wp2_with fail
  refine (terms_any B1 c 1 _ _ (by decide) _ HL6.out HRV6.out).mono ?_
  rintro e w7 ⟨v7, rfl, ho7, hb7⟩
  obtain ⟨o7, c7, rfl⟩ := own_sl ho7
  have hbw7 := bStep hbw6 hb7
  have HM7 : Hid (Lz w7 B2 d (.slice (some ⟨gu, 0, none⟩) 1 cu)) := HM6.out.belowAll hb7; have HRU7 : Hid (Rs w7 (.slice (some ⟨gu, 0, none⟩) 1 cu) 13 1 (fun i => tC (TU i))) := HRU6.out.below hb7
  clear ho7 hb7
  go_wp2_with fail
  refine (terms_any B2 d 1 _ _ (by decide) _ HM7.out HRU7.out).mono ?_
  rintro e w8 ⟨v8, rfl, ho8, hb8⟩
  obtain ⟨o8, c8, rfl⟩ := own_sl ho8
  have hbw8 := bStep hbw7 hb8
  clear ho8 hb8
  go_wp2
  go_ret
  exact ⟨rfl, hbw8⟩
theorem moth_out (c d n : Int) (k : Nat) (h : c < 0 ∨ 3 < c ∨ d < 0 ∨ 3 < d) (w : World) (hg : GlobC w) :
  Calls Tryz.prog 6 #[.int .i64 c, .int .i64 d, .agg #[.int .u64 (limb 0 k), .int .u64 (limb 1 k), .int .u64 (limb 2 k), .int .u64 (limb 3 k)], .int .i64 n] w fun e w' => e = .returned (.bool true) ∧ Below w.heap.size w w' := by
 have HG0 : Hid (GlobC w) := hg
 clear hg
 by_cases h1 : c < 0
 ·clear h
  go_enter Tryz.func6, Tryz.ntmps6
  go_upto_region 1 with fail
  obtain ⟨w0, hw0⟩ : ∃ w0 : World, w0 = w.alloc (.cells #[.int .u64 (limb 0 k), .int .u64 (limb 1 k), .int .u64 (limb 2 k), .int .u64 (limb 3 k)] 28) := ⟨_, rfl⟩
  have hb0 : Below w.heap.size w w0 := by rw [hw0]; exact (Below.refl _ _).alloc (Nat.le_refl _) _
  rw [← hw0]
  clear hw0
  go_wp2_with fail
  refine (alive5_any _ (HG0.out.below hb0)).mono ?_
  rintro e w1 ⟨rfl, hb1⟩
  have hbw1 := bStep hb0 hb1
  go_wp2
  go_ret
  exact ⟨rfl, hbw1⟩
 ·by_cases h2 : 3 < c
  ·clear h
   go_enter Tryz.func6, Tryz.ntmps6
   go_upto_region 1 with fail
   obtain ⟨w0, hw0⟩ : ∃ w0 : World, w0 = w.alloc (.cells #[.int .u64 (limb 0 k), .int .u64 (limb 1 k), .int .u64 (limb 2 k), .int .u64 (limb 3 k)] 28) := ⟨_, rfl⟩
   have hb0 : Below w.heap.size w w0 := by rw [hw0]; exact (Below.refl _ _).alloc (Nat.le_refl _) _
   rw [← hw0]
   clear hw0
   go_wp2_with fail
   refine (alive5_any _ (HG0.out.below hb0)).mono ?_
   rintro e w1 ⟨rfl, hb1⟩
   have hbw1 := bStep hb0 hb1
   go_wp2
   go_ret
   exact ⟨rfl, hbw1⟩
  ·by_cases h3 : d < 0
   ·clear h
    go_enter Tryz.func6, Tryz.ntmps6
    go_upto_region 1 with fail
    obtain ⟨w0, hw0⟩ : ∃ w0 : World, w0 = w.alloc (.cells #[.int .u64 (limb 0 k), .int .u64 (limb 1 k), .int .u64 (limb 2 k), .int .u64 (limb 3 k)] 28) := ⟨_, rfl⟩
    have hb0 : Below w.heap.size w w0 := by rw [hw0]; exact (Below.refl _ _).alloc (Nat.le_refl _) _
    rw [← hw0]
    clear hw0
    go_wp2_with fail
    refine (alive5_any _ (HG0.out.below hb0)).mono ?_
    rintro e w1 ⟨rfl, hb1⟩
    have hbw1 := bStep hb0 hb1
    go_wp2
    go_ret
    exact ⟨rfl, hbw1⟩
   ·have h4 : 3 < d := by omega
    clear h
    go_enter Tryz.func6, Tryz.ntmps6
    go_upto_region 1 with fail
    obtain ⟨w0, hw0⟩ : ∃ w0 : World, w0 = w.alloc (.cells #[.int .u64 (limb 0 k), .int .u64 (limb 1 k), .int .u64 (limb 2 k), .int .u64 (limb 3 k)] 28) := ⟨_, rfl⟩
    have hb0 : Below w.heap.size w w0 := by rw [hw0]; exact (Below.refl _ _).alloc (Nat.le_refl _) _
    rw [← hw0]
    clear hw0
    go_wp2_with fail
    refine (alive5_any _ (HG0.out.below hb0)).mono ?_
    rintro e w1 ⟨rfl, hb1⟩
    have hbw1 := bStep hb0 hb1
    go_wp2
    go_ret
    exact ⟨rfl, hbw1⟩
theorem moth_walk (c d : Int) (k : Nat) (n : Int) (hk : k < 115792089237316195423570985008687907853269984665640564039457584007913129639936) (w : World) (hg : GlobC w) :
  Calls Tryz.prog 6 #[.int .i64 c, .int .i64 d, .agg #[.int .u64 (limb 0 k), .int .u64 (limb 1 k), .int .u64 (limb 2 k), .int .u64 (limb 3 k)], .int .i64 n] w fun e w' => e = .returned (.bool true) ∧ Below w.heap.size w w' := by
 by_cases h : c < 0 ∨ 3 < c ∨ d < 0 ∨ 3 < d
 ·exact moth_out c d n k h w hg
 ·obtain ⟨c', rfl⟩ : ∃ c' : Nat, c = (c' : Int) := ⟨c.toNat, by omega⟩
  obtain ⟨d', rfl⟩ : ∃ d' : Nat, d = (d' : Int) := ⟨d.toNat, by omega⟩
  exact moth_in c' d' k n (by omega) (by omega) hk w hg
end Go.Proofs.YtokoknacolmhgaaGreatDoor
