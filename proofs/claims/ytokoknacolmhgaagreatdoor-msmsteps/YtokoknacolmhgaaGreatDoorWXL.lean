import Derived.Test.YtokoknacolmhgaaGreatDoorWSL
import Derived.Test.YtokoknacolmhgaaGreatDoorWMS19
import Derived.Test.YtokoknacolmhgaaGreatDoorWK12
import Derived.Test.YtokoknacolmhgaaGreatDoorWSW
set_option maxHeartbeats 8000000
namespace Go.Proofs.YtokoknacolmhgaaGreatDoor
open Go.RowKit
def app2 (T : Nat → Nat × Nat × Nat × Bool) (n : Nat) (V : Nat → Nat × Nat × Nat × Bool) (i : Nat) : Nat × Nat × Nat × Bool := if i < n then T i else V (i - n)
theorem But.keep {w w' : World} {B b : Nat} {row : Option Nat} (h : But w w' B row) (hb : b < w.heap.size) (h1 : b ≠ B) (h2 : some b ≠ row) : w'.heap[b]? = w.heap[b]? := h.2.2.2.2 b hb h1 h2
theorem But.grown {w w' : World} {B : Nat} {row : Option Nat} (h : But w w' B row) (hr : row = none) : w.grownBy w' (some B) := ⟨h.1, h.2.1, h.2.2.1, h.2.2.2.1, fun k hk hne => h.2.2.2.2 k hk (fun e => hne (by rw [e])) (by rw [hr]; intro e; cases e)⟩
theorem own_ne {w : World} {base B c n : Nat} {v u : Value} {xs : List Value} (h : w.ownsRow base 43 13 v n xs) (hL : Lz w B c u) : v.ownBlock ≠ some B := by
 rcases h.2 with ⟨rfl, _⟩ | ⟨g, cap, cur, rfl, _, hg, _⟩
 ·intro e; cases e
 ·intro e
  have e2 : g = B := Option.some.inj e
  subst e2
  unfold Lz at hL
  rw [hL] at hg
  cases hg
theorem own_sl {w : World} {base n : Nat} {v : Value} {xs : List Value} (h : w.ownsRow base 43 13 v n xs) : ∃ oa cn, v = .slice oa n cn := by
 rcases h.2 with ⟨rfl, rfl⟩ | ⟨g, cap, cur, rfl, _⟩
 ·exact ⟨_, _, rfl⟩
 ·exact ⟨_, _, rfl⟩
end Go.Proofs.YtokoknacolmhgaaGreatDoor
namespace Go.Proofs.YtokoknacolmhgaaGreatDoor
open Go.RowKit
theorem wp_append_none {P : Program} (w : World) {o : Oper} {a : Act} {K : Act → World → Prop} {Q : Exit → Act → World → Prop} (s x : Operand) (t : TypeId)
  (ho : o.op = .call { callee := .builtin .append, args := #[s, x], argTypes := #[t, t] })
  (base : Nat) (e : TypeId) (i : TypeInfo) (size : Nat) (ht : P.underlying t = some (.slice e)) (hi : P.info? e = some i)
  (v : Value) (n : Nat) (xs : List Value) (hs : a.eval s = v) (hown : w.ownsRow base e size v n xs) (hx : a.eval x = .slice none 0 0)
  (h : K (a.put o.dst v) w) : o.wp P a w K Q := by
 have hrun := run_append_owned_none (P := P) (w := w) base t o.type e i size ht hi v n xs hown
 unfold Oper.wp
 simp [execOp, ho, resolve, invoke, builtin, hs, hx, hrun, Result.andThen]
 exact h
def JoinE (w w' : World) (B c base N : Nat) (T : Nat → Nat × Nat × Nat × Bool) (row : Option Nat) (e : Ending) : Prop :=
 ∃ v', e = .returned (.int .i64 0) ∧ Lz w' B c v' ∧ w'.ownsRow base 43 13 v' N (trs T N) ∧ v'.ownBlock ≠ some B ∧ (v'.ownBlock = row ∨ ∃ b, v'.ownBlock = some b ∧ w.heap.size ≤ b)
set_option maxRecDepth 20000 in
theorem join_some (B1 B2 c n q base gb ob cn cq : Nat) (oa : Option Addr) (T V : Nat → Nat × Nat × Nat × Bool) (hn : n + q ≤ 100000) (w : World) (hL : Lz w B1 c (.slice oa n cn)) (hM : Lz w B2 c (.slice (some ⟨gb, ob, none⟩) q cq)) (hown : w.ownsRow base 43 13 (.slice oa n cn) n (trs T n)) (hbase : base ≤ w.heap.size) (hne : (Value.slice oa n cn).ownBlock ≠ some B1) (hne2 : (Value.slice oa n cn).ownBlock ≠ some B2) (hgb : gb < w.heap.size) (hV : ∀ i, i < q → ∀ j, j < 13 → w.cell? ⟨gb, ob + i * 13 + j, none⟩ = some (tC (V i) j)) :
  Calls Tryz.prog 20 #[.pointer (some ⟨B1, 0, none⟩), .pointer (some ⟨B2, 0, none⟩)] w fun e w' => JoinE w w' B1 c base (n + q) (app2 T n V) (Value.slice oa n cn).ownBlock e ∧ But w w' B1 (Value.slice oa n cn).ownBlock := by
 have EQN : ∀ w, (binOp .eql 36 (.pointer (some ⟨B2, 0, none⟩)) (.pointer none)).run Tryz.prog w = .ok (.bool false) w := fun w => by kernel_rfl
 obtain ⟨i0, hi, hz0, hz1, hz2⟩ := termInfo
 have HI := (show Hid _ from hi); have HZ := (show Hid _ from And.intro hz0 (And.intro hz1 hz2)); clear hi hz0 hz1 hz2
 have HWI : Hid (IntKind.i64.wrap ((n : Int) + (q : Int)) = (n : Int) + (q : Int)) := by
  have := wrap_i64_nat (n + q) (by omega)
  rw [Int.natCast_add] at this
  exact this
 have HLE : Hid (¬ (100000 : Int) < (n : Int) + (q : Int)) := (by omega : ¬ (100000 : Int) < (n : Int) + (q : Int))
 have HOW : Hid (w.ownsRow base 43 13 (.slice oa n cn) n (trs T n)) := hown
 have HB : Hid (base ≤ w.heap.size ∧ (Value.slice oa n cn).ownBlock ≠ some B1 ∧ n + q ≤ 100000) := ⟨hbase, hne, hn⟩
 have HB2 : Hid ((Value.slice oa n cn).ownBlock ≠ some B2) := hne2
 have HNW : Hid (∀ w', Below w.heap.size w w' → ∀ j u, (trs V q)[j]? = some u → w'.cell? ((⟨gb, ob, none⟩ : Addr).add j) = some u) := fun w' hb j u hj => trs_cells V q gb ob w w' hb hgb hV j u hj
 clear hown hbase hne hn hne2 hgb hV
 go_enter Tryz.func20, Tryz.ntmps20
 go_upto_region 1 with fail
 refine wp_region_Z (fun w' => Lz w' B1 c (.slice oa n cn) ∧ Lz w' B2 c (.slice (some ⟨gb, ob, none⟩) q cq)) 99 (by kernel_rfl) ?_
 obtain ⟨wD, hD⟩ : ∃ x : World, x = w.drew := ⟨_, rfl⟩
 rw [← hD]
 have hp0_0 : Lz wD B1 c (.slice oa n cn) := by rw [hD]; exact hL
 have hp1_0 : Lz wD B2 c (.slice (some ⟨gb, ob, none⟩) q cq) := by rw [hD]; exact hM
 have hlow0 : Below w.heap.size w wD := by rw [hD]; exact (Below.refl _ _).drew
 clear hD
 refine zs 0 5 (.pointer (some ⟨B2, 0, none⟩)) ⟨hp0_0, hp1_0⟩ ?_
 refine zs 1 6 (.bool false) ⟨hp0_0, hp1_0⟩ ?_
 refine zs 2 7 (.bool false) ⟨hp0_0, hp1_0⟩ ?_
 refine zs 3 8 (.pointer (some ⟨B2, 0, none⟩)) ⟨hp0_0, hp1_0⟩ ?_
 refine zs 4 9 (.pointer (some ⟨B2, 0, none⟩)) ⟨hp0_0, hp1_0⟩ ?_
 refine zs 5 10 (.pointer (some ⟨B2, 0, none⟩)) ⟨hp0_0, hp1_0⟩ ?_
 refine zT 6 11 (.int .i64 (c : Int)) rfl rfl (fun w hSw => by (obtain ⟨q0, q1, qf⟩ := hSw.2.cells; clear hSw; go_simp)) ⟨hp0_0, hp1_0⟩ ?_
 refine zs 7 12 (.pointer (some ⟨B1, 0, none⟩)) ⟨hp0_0, hp1_0⟩ ?_
 refine zs 8 13 (.pointer (some ⟨B1, 0, none⟩)) ⟨hp0_0, hp1_0⟩ ?_
 refine zs 9 14 (.pointer (some ⟨B1, 0, none⟩)) ⟨hp0_0, hp1_0⟩ ?_
 refine zT 10 15 (.int .i64 (c : Int)) rfl rfl (fun w hSw => by (obtain ⟨q0, q1, qf⟩ := hSw.1.cells; clear hSw; go_simp)) ⟨hp0_0, hp1_0⟩ ?_
 refine zs 11 16 (.bool false) ⟨hp0_0, hp1_0⟩ ?_
 refine zs 12 17 (.bool false) ⟨hp0_0, hp1_0⟩ ?_
 refine zd ?_ _
 obtain ⟨W1, eW1⟩ : ∃ W : World, W = wD := ⟨_, rfl⟩
 have bL1 : Lz W1 B1 c (.slice oa n cn) := by rw [eW1]; exact hp0_0
 have bM1 : Lz W1 B2 c (.slice (some ⟨gb, ob, none⟩) q cq) := by rw [eW1]; exact hp1_0
 have hbW1 : Below w.heap.size w W1 := by rw [eW1]; exact hlow0
 rw [← eW1]
 clear eW1
 go_upto_region 3 with fail
 refine wp_region_Z (fun w' => Lz w' B1 c (.slice oa n cn) ∧ Lz w' B2 c (.slice (some ⟨gb, ob, none⟩) q cq)) 99 (by kernel_rfl) ?_
 obtain ⟨wE, hD⟩ : ∃ x : World, x = W1.drew := ⟨_, rfl⟩
 rw [← hD]
 have hq0_0 : Lz wE B1 c (.slice oa n cn) := by rw [hD]; exact bL1
 have hq1_0 : Lz wE B2 c (.slice (some ⟨gb, ob, none⟩) q cq) := by rw [hD]; exact bM1
 have hlox0 : Below W1.heap.size W1 wE := by rw [hD]; exact (Below.refl _ _).drew
 clear hD
 refine zs 0 18 (.pointer (some ⟨B1, 0, none⟩)) ⟨hq0_0, hq1_0⟩ ?_
 refine zs 1 19 (.pointer (some ⟨B1, 0, none⟩)) ⟨hq0_0, hq1_0⟩ ?_
 refine zs 2 20 (.pointer (some ⟨B1, 1, none⟩)) ⟨hq0_0, hq1_0⟩ ?_
 refine zT 3 21 (.slice oa n cn) rfl rfl (fun w hSw => by (obtain ⟨q0, q1, qf⟩ := hSw.1.cells; clear hSw; go_simp)) ⟨hq0_0, hq1_0⟩ ?_
 refine zs 4 22 (.int .i64 (n : Int)) ⟨hq0_0, hq1_0⟩ ?_
 refine zs 5 23 (.pointer (some ⟨B2, 0, none⟩)) ⟨hq0_0, hq1_0⟩ ?_
 refine zs 6 24 (.pointer (some ⟨B2, 0, none⟩)) ⟨hq0_0, hq1_0⟩ ?_
 refine zs 7 25 (.pointer (some ⟨B2, 1, none⟩)) ⟨hq0_0, hq1_0⟩ ?_
 refine zT 8 26 (.slice (some ⟨gb, ob, none⟩) q cq) rfl rfl (fun w hSw => by (obtain ⟨q0, q1, qf⟩ := hSw.2.cells; clear hSw; go_simp)) ⟨hq0_0, hq1_0⟩ ?_
 refine zs 9 27 (.int .i64 (q : Int)) ⟨hq0_0, hq1_0⟩ ?_
 refine zT 10 28 (.int .i64 ((n : Int) + (q : Int))) rfl rfl (fun w hSw => by (go_simp; first | done | exact HWI.out | (have hx := HWI.out; simp at hx; exact hx))) ⟨hq0_0, hq1_0⟩ ?_
 refine zT 11 29 (.bool false) rfl rfl (fun w hSw => by (have hle := HLE.out; go_simp)) ⟨hq0_0, hq1_0⟩ ?_
 refine zd ?_ _
 obtain ⟨W2, eW2⟩ : ∃ W : World, W = wE := ⟨_, rfl⟩
 have bL2 : Lz W2 B1 c (.slice oa n cn) := by rw [eW2]; exact hq0_0
 have bM2 : Lz W2 B2 c (.slice (some ⟨gb, ob, none⟩) q cq) := by rw [eW2]; exact hq1_0
 have hbW2 : Below w.heap.size w W2 := by rw [eW2]; exact bStep hbW1 hlox0
 rw [← eW2]
 clear eW2
 go_upto_region 5 with fail
 refine wp_region_Z (fun w' => Lz w' B1 c (.slice oa n cn) ∧ Lz w' B2 c (.slice (some ⟨gb, ob, none⟩) q cq)) 12 (by kernel_rfl) ?_
 obtain ⟨wF, hD⟩ : ∃ x : World, x = W2.drew := ⟨_, rfl⟩
 rw [← hD]
 have hr0_0 : Lz wF B1 c (.slice oa n cn) := by rw [hD]; exact bL2
 have hr1_0 : Lz wF B2 c (.slice (some ⟨gb, ob, none⟩) q cq) := by rw [hD]; exact bM2
 have hloy0 : Below W2.heap.size W2 wF := by rw [hD]; exact (Below.refl _ _).drew
 clear hD
 refine zs 0 30 (.pointer (some ⟨B1, 0, none⟩)) ⟨hr0_0, hr1_0⟩ ?_
 refine zs 1 31 (.pointer (some ⟨B1, 0, none⟩)) ⟨hr0_0, hr1_0⟩ ?_
 refine zs 2 32 (.pointer (some ⟨B1, 0, none⟩)) ⟨hr0_0, hr1_0⟩ ?_
 refine zs 3 33 (.pointer (some ⟨B1, 1, none⟩)) ⟨hr0_0, hr1_0⟩ ?_
 refine zT 4 34 (.slice oa n cn) rfl rfl (fun w hSw => by (obtain ⟨q0, q1, qf⟩ := hSw.1.cells; clear hSw; go_simp)) ⟨hr0_0, hr1_0⟩ ?_
 refine zs 5 35 (.pointer (some ⟨B2, 0, none⟩)) ⟨hr0_0, hr1_0⟩ ?_
 refine zs 6 36 (.pointer (some ⟨B2, 0, none⟩)) ⟨hr0_0, hr1_0⟩ ?_
 refine zs 7 37 (.pointer (some ⟨B2, 1, none⟩)) ⟨hr0_0, hr1_0⟩ ?_
 refine zT 8 38 (.slice (some ⟨gb, ob, none⟩) q cq) rfl rfl (fun w hSw => by (obtain ⟨q0, q1, qf⟩ := hSw.2.cells; clear hSw; go_simp)) ⟨hr0_0, hr1_0⟩ ?_
 refine zo 9 rfl (fun K hK => ?_)
 have hbwB := bStep hbW2 hloy0
 have hownB : wF.ownsRow base 43 13 (.slice oa n cn) n (trs T n) := own_belowAll HOW.out hbwB
 rw [if_pos (show Region.wanted _ _ = true from rfl)]
 refine wp_append_sep wF _ _ 22 rfl base 43 i0 (.agg #[.int .u64 0, .int .u64 0, .int .u64 0, .int .u64 0, .int .u64 0, .int .u64 0, .int .u64 0, .int .u64 0, .int .u64 0, .int .u64 0, .int .u64 0, .int .u64 0, .bool false]) 13 104 Tryz.underlying22 HI.out HZ.out.1 HZ.out.2.1 HZ.out.2.2 rfl (by decide) (.slice oa n cn) n (trs T n) rfl hownB ⟨gb, ob, none⟩ q cq (trs V q) rfl (trs_len _ _) (HNW.out _ hbwB) (trs_one _ _) ?c1 ?c2 ?c3 ?_
 case c1 => have := HB.out.2.2; unfold maxLen; omega
 case c2 => have := HB.out.2.2; omega
 case c3 => exact Nat.le_trans HB.out.1 hbwB.size
 intro v' wA hownA hgrow hsep
 rw [trs_add] at hownA
 have hV' : ∃ oa' cn', v' = .slice oa' (n + q) cn' := by
  rcases hownA.2 with ⟨rfl, h⟩ | ⟨g, cap, cur, rfl, _⟩
  ·rw [h]; exact ⟨_, _, rfl⟩
  ·exact ⟨_, _, rfl⟩
 obtain ⟨oa', cn', rfl⟩ := hV'
 have hnB : some B1 ≠ (.slice oa n cn : Value).ownBlock := fun h => HB.out.2.1 h.symm
 have hr0_1 : Lz wA B1 c (.slice oa n cn) := by unfold Lz; rw [hgrow.block B1 (hr0_0).lt hnB]; exact hr0_0
 have hnC : some B2 ≠ (.slice oa n cn : Value).ownBlock := fun h => HB2.out h.symm
 have hr1_1 : Lz wA B2 c (.slice (some ⟨gb, ob, none⟩) q cq) := by unfold Lz; rw [hgrow.block B2 (hr1_0).lt hnC]; exact hr1_0
 have hbut : But w wA B1 (Value.slice oa n cn).ownBlock := ⟨hgrow.os.trans hbwB.os, hgrow.tape.trans hbwB.tape, hgrow.output.trans hbwB.output, Nat.le_trans hbwB.size hgrow.size, fun k hk _ h2 => (hgrow.block k (Nat.lt_of_lt_of_le hk hbwB.size) h2).trans (hbwB.block k hk)⟩
 have hvB : (Value.slice oa' (n + q) cn').ownBlock ≠ some B1 := own_new_ne hgrow hownA hr0_1
 have HSEP : Hid ((Value.slice oa' (n + q) cn').ownBlock = (Value.slice oa n cn).ownBlock ∨ ∃ b, (Value.slice oa' (n + q) cn').ownBlock = some b ∧ w.heap.size ≤ b) := by
  rcases hsep with h | h
  ·exact Or.inl h
  ·exact Or.inr ⟨_, h, hbwB.size⟩
 have HOA := (show Hid _ from hownA); have HBU : Hid (But w wA B1 (Value.slice oa n cn).ownBlock) := hbut; have HVB : Hid ((Value.slice oa' (n + q) cn').ownBlock ≠ some B1) := hvB
 clear hownA hgrow hbut hvB hnB hownB hbwB hsep hnC
 go_simp
 refine hK.out _ _ (fun _ => ⟨hr0_1, hr1_1⟩) ?_
 clear hK K
 refine zo 10 rfl (fun K hK => ?_)
 go_simp
 refine hK.out _ _ (fun _ => ⟨hr0_1, hr1_1⟩) ?_
 clear hK K
 refine zs 11 41 (.pointer (some ⟨B1, 1, none⟩)) ⟨hr0_1, hr1_1⟩ ?_
 refine zo 12 rfl (fun K hK => ?_)
 obtain ⟨g0, g1, gf⟩ := (hr0_1).cells
 go_simp
 refine hK.out _ _ (fun h => absurd rfl h) ?_
 clear hK K
 refine zd ?_ _
 go_wp2
 go_ret
 have hOS := own_set (u := .slice oa' (n + q) cn') HOA.out HVB.out
 exact ⟨⟨.slice oa' (n + q) cn', rfl, (hr0_1).set _, hOS, HVB.out, HSEP.out⟩, but_set HBU.out _⟩
set_option maxRecDepth 20000 in
theorem join_none (B1 B2 c n base cn : Nat) (oa : Option Addr) (T : Nat → Nat × Nat × Nat × Bool) (hn : n + 0 ≤ 100000) (w : World) (hL : Lz w B1 c (.slice oa n cn)) (hM : Lz w B2 c (.slice none 0 0)) (hown : w.ownsRow base 43 13 (.slice oa n cn) n (trs T n)) (hbase : base ≤ w.heap.size) (hne : (Value.slice oa n cn).ownBlock ≠ some B1) (hne2 : (Value.slice oa n cn).ownBlock ≠ some B2) :
  Calls Tryz.prog 20 #[.pointer (some ⟨B1, 0, none⟩), .pointer (some ⟨B2, 0, none⟩)] w fun e w' => JoinE w w' B1 c base (n) (T) (Value.slice oa n cn).ownBlock e ∧ But w w' B1 (Value.slice oa n cn).ownBlock := by
 have EQN : ∀ w, (binOp .eql 36 (.pointer (some ⟨B2, 0, none⟩)) (.pointer none)).run Tryz.prog w = .ok (.bool false) w := fun w => by kernel_rfl
 obtain ⟨i0, hi, hz0, hz1, hz2⟩ := termInfo
 have HI := (show Hid _ from hi); have HZ := (show Hid _ from And.intro hz0 (And.intro hz1 hz2)); clear hi hz0 hz1 hz2
 have HWI : Hid (IntKind.i64.wrap ((n : Int) + 0) = (n : Int) + 0) := by
  have := wrap_i64_nat (n + 0) (by omega)
  rw [Int.natCast_add] at this
  exact this
 have HLE : Hid (¬ (100000 : Int) < (n : Int) + 0) := (by omega : ¬ (100000 : Int) < (n : Int) + 0)
 have HOW : Hid (w.ownsRow base 43 13 (.slice oa n cn) n (trs T n)) := hown
 have HB : Hid (base ≤ w.heap.size ∧ (Value.slice oa n cn).ownBlock ≠ some B1 ∧ n + 0 ≤ 100000) := ⟨hbase, hne, hn⟩
 have HB2 : Hid ((Value.slice oa n cn).ownBlock ≠ some B2) := hne2
 clear hown hbase hne hn hne2
 go_enter Tryz.func20, Tryz.ntmps20
 go_upto_region 1 with fail
 refine wp_region_Z (fun w' => Lz w' B1 c (.slice oa n cn) ∧ Lz w' B2 c (.slice none 0 0)) 99 (by kernel_rfl) ?_
 obtain ⟨wD, hD⟩ : ∃ x : World, x = w.drew := ⟨_, rfl⟩
 rw [← hD]
 have hp0_0 : Lz wD B1 c (.slice oa n cn) := by rw [hD]; exact hL
 have hp1_0 : Lz wD B2 c (.slice none 0 0) := by rw [hD]; exact hM
 have hlow0 : Below w.heap.size w wD := by rw [hD]; exact (Below.refl _ _).drew
 clear hD
 refine zs 0 5 (.pointer (some ⟨B2, 0, none⟩)) ⟨hp0_0, hp1_0⟩ ?_
 refine zs 1 6 (.bool false) ⟨hp0_0, hp1_0⟩ ?_
 refine zs 2 7 (.bool false) ⟨hp0_0, hp1_0⟩ ?_
 refine zs 3 8 (.pointer (some ⟨B2, 0, none⟩)) ⟨hp0_0, hp1_0⟩ ?_
 refine zs 4 9 (.pointer (some ⟨B2, 0, none⟩)) ⟨hp0_0, hp1_0⟩ ?_
 refine zs 5 10 (.pointer (some ⟨B2, 0, none⟩)) ⟨hp0_0, hp1_0⟩ ?_
 refine zT 6 11 (.int .i64 (c : Int)) rfl rfl (fun w hSw => by (obtain ⟨q0, q1, qf⟩ := hSw.2.cells; clear hSw; go_simp)) ⟨hp0_0, hp1_0⟩ ?_
 refine zs 7 12 (.pointer (some ⟨B1, 0, none⟩)) ⟨hp0_0, hp1_0⟩ ?_
 refine zs 8 13 (.pointer (some ⟨B1, 0, none⟩)) ⟨hp0_0, hp1_0⟩ ?_
 refine zs 9 14 (.pointer (some ⟨B1, 0, none⟩)) ⟨hp0_0, hp1_0⟩ ?_
 refine zT 10 15 (.int .i64 (c : Int)) rfl rfl (fun w hSw => by (obtain ⟨q0, q1, qf⟩ := hSw.1.cells; clear hSw; go_simp)) ⟨hp0_0, hp1_0⟩ ?_
 refine zs 11 16 (.bool false) ⟨hp0_0, hp1_0⟩ ?_
 refine zs 12 17 (.bool false) ⟨hp0_0, hp1_0⟩ ?_
 refine zd ?_ _
 obtain ⟨W1, eW1⟩ : ∃ W : World, W = wD := ⟨_, rfl⟩
 have bL1 : Lz W1 B1 c (.slice oa n cn) := by rw [eW1]; exact hp0_0
 have bM1 : Lz W1 B2 c (.slice none 0 0) := by rw [eW1]; exact hp1_0
 have hbW1 : Below w.heap.size w W1 := by rw [eW1]; exact hlow0
 rw [← eW1]
 clear eW1
 go_upto_region 3 with fail
 refine wp_region_Z (fun w' => Lz w' B1 c (.slice oa n cn) ∧ Lz w' B2 c (.slice none 0 0)) 99 (by kernel_rfl) ?_
 obtain ⟨wE, hD⟩ : ∃ x : World, x = W1.drew := ⟨_, rfl⟩
 rw [← hD]
 have hq0_0 : Lz wE B1 c (.slice oa n cn) := by rw [hD]; exact bL1
 have hq1_0 : Lz wE B2 c (.slice none 0 0) := by rw [hD]; exact bM1
 have hlox0 : Below W1.heap.size W1 wE := by rw [hD]; exact (Below.refl _ _).drew
 clear hD
 refine zs 0 18 (.pointer (some ⟨B1, 0, none⟩)) ⟨hq0_0, hq1_0⟩ ?_
 refine zs 1 19 (.pointer (some ⟨B1, 0, none⟩)) ⟨hq0_0, hq1_0⟩ ?_
 refine zs 2 20 (.pointer (some ⟨B1, 1, none⟩)) ⟨hq0_0, hq1_0⟩ ?_
 refine zT 3 21 (.slice oa n cn) rfl rfl (fun w hSw => by (obtain ⟨q0, q1, qf⟩ := hSw.1.cells; clear hSw; go_simp)) ⟨hq0_0, hq1_0⟩ ?_
 refine zs 4 22 (.int .i64 (n : Int)) ⟨hq0_0, hq1_0⟩ ?_
 refine zs 5 23 (.pointer (some ⟨B2, 0, none⟩)) ⟨hq0_0, hq1_0⟩ ?_
 refine zs 6 24 (.pointer (some ⟨B2, 0, none⟩)) ⟨hq0_0, hq1_0⟩ ?_
 refine zs 7 25 (.pointer (some ⟨B2, 1, none⟩)) ⟨hq0_0, hq1_0⟩ ?_
 refine zT 8 26 (.slice none 0 0) rfl rfl (fun w hSw => by (obtain ⟨q0, q1, qf⟩ := hSw.2.cells; clear hSw; go_simp)) ⟨hq0_0, hq1_0⟩ ?_
 refine zs 9 27 (.int .i64 0) ⟨hq0_0, hq1_0⟩ ?_
 refine zT 10 28 (.int .i64 ((n : Int) + 0)) rfl rfl (fun w hSw => by (go_simp; first | done | exact HWI.out | (have hx := HWI.out; simp at hx; exact hx))) ⟨hq0_0, hq1_0⟩ ?_
 refine zT 11 29 (.bool false) rfl rfl (fun w hSw => by (have hle := HLE.out; rw [Int.add_zero] at hle; go_simp)) ⟨hq0_0, hq1_0⟩ ?_
 refine zd ?_ _
 obtain ⟨W2, eW2⟩ : ∃ W : World, W = wE := ⟨_, rfl⟩
 have bL2 : Lz W2 B1 c (.slice oa n cn) := by rw [eW2]; exact hq0_0
 have bM2 : Lz W2 B2 c (.slice none 0 0) := by rw [eW2]; exact hq1_0
 have hbW2 : Below w.heap.size w W2 := by rw [eW2]; exact bStep hbW1 hlox0
 rw [← eW2]
 clear eW2
 go_upto_region 5 with fail
 refine wp_region_Z (fun w' => Lz w' B1 c (.slice oa n cn) ∧ Lz w' B2 c (.slice none 0 0)) 12 (by kernel_rfl) ?_
 obtain ⟨wF, hD⟩ : ∃ x : World, x = W2.drew := ⟨_, rfl⟩
 rw [← hD]
 have hr0_0 : Lz wF B1 c (.slice oa n cn) := by rw [hD]; exact bL2
 have hr1_0 : Lz wF B2 c (.slice none 0 0) := by rw [hD]; exact bM2
 have hloy0 : Below W2.heap.size W2 wF := by rw [hD]; exact (Below.refl _ _).drew
 clear hD
 refine zs 0 30 (.pointer (some ⟨B1, 0, none⟩)) ⟨hr0_0, hr1_0⟩ ?_
 refine zs 1 31 (.pointer (some ⟨B1, 0, none⟩)) ⟨hr0_0, hr1_0⟩ ?_
 refine zs 2 32 (.pointer (some ⟨B1, 0, none⟩)) ⟨hr0_0, hr1_0⟩ ?_
 refine zs 3 33 (.pointer (some ⟨B1, 1, none⟩)) ⟨hr0_0, hr1_0⟩ ?_
 refine zT 4 34 (.slice oa n cn) rfl rfl (fun w hSw => by (obtain ⟨q0, q1, qf⟩ := hSw.1.cells; clear hSw; go_simp)) ⟨hr0_0, hr1_0⟩ ?_
 refine zs 5 35 (.pointer (some ⟨B2, 0, none⟩)) ⟨hr0_0, hr1_0⟩ ?_
 refine zs 6 36 (.pointer (some ⟨B2, 0, none⟩)) ⟨hr0_0, hr1_0⟩ ?_
 refine zs 7 37 (.pointer (some ⟨B2, 1, none⟩)) ⟨hr0_0, hr1_0⟩ ?_
 refine zT 8 38 (.slice none 0 0) rfl rfl (fun w hSw => by (obtain ⟨q0, q1, qf⟩ := hSw.2.cells; clear hSw; go_simp)) ⟨hr0_0, hr1_0⟩ ?_
 refine zo 9 rfl (fun K hK => ?_)
 have hbwB := bStep hbW2 hloy0
 have hownB : wF.ownsRow base 43 13 (.slice oa n cn) n (trs T n) := own_belowAll HOW.out hbwB
 rw [if_pos (show Region.wanted _ _ = true from rfl)]
 refine wp_append_none wF _ _ 22 rfl base 43 i0 13 Tryz.underlying22 HI.out (.slice oa n cn) n (trs T n) rfl hownB rfl ?_
 have HBB : Hid (Below w.heap.size w wF) := hbwB
 have HOA := (show Hid _ from hownB)
 clear hownB hbwB
 go_simp
 refine hK.out _ _ (fun _ => ⟨hr0_0, hr1_0⟩) ?_
 clear hK K
 refine zo 10 rfl (fun K hK => ?_)
 go_simp
 refine hK.out _ _ (fun _ => ⟨hr0_0, hr1_0⟩) ?_
 clear hK K
 refine zs 11 41 (.pointer (some ⟨B1, 1, none⟩)) ⟨hr0_0, hr1_0⟩ ?_
 refine zo 12 rfl (fun K hK => ?_)
 obtain ⟨g0, g1, gf⟩ := (hr0_0).cells
 go_simp
 refine hK.out _ _ (fun h => absurd rfl h) ?_
 clear hK K
 refine zd ?_ _
 go_wp2
 go_ret
 have hOS := own_set (u := .slice oa n cn) HOA.out HB.out.2.1
 exact ⟨⟨.slice oa n cn, rfl, (hr0_0).set _, hOS, HB.out.2.1, Or.inl rfl⟩, but_set ⟨HBB.out.os, HBB.out.tape, HBB.out.output, HBB.out.size, fun k hk _ _ => HBB.out.block k hk⟩ _⟩
set_option maxRecDepth 20000 in
theorem join_self (B1 c n base cn g : Nat) (T : Nat → Nat × Nat × Nat × Bool) (hn : n + n ≤ 100000) (w : World) (hL : Lz w B1 c (.slice (some ⟨g, 0, none⟩) n cn)) (hown : w.ownsRow base 43 13 (.slice (some ⟨g, 0, none⟩) n cn) n (trs T n)) (hbase : base ≤ w.heap.size) (hne : (Value.slice (some ⟨g, 0, none⟩) n cn).ownBlock ≠ some B1) :
  Calls Tryz.prog 20 #[.pointer (some ⟨B1, 0, none⟩), .pointer (some ⟨B1, 0, none⟩)] w fun e w' => JoinE w w' B1 c base (n + n) (app2 T n T) (Value.slice (some ⟨g, 0, none⟩) n cn).ownBlock e ∧ But w w' B1 (Value.slice (some ⟨g, 0, none⟩) n cn).ownBlock := by
 have EQN : ∀ w, (binOp .eql 36 (.pointer (some ⟨B1, 0, none⟩)) (.pointer none)).run Tryz.prog w = .ok (.bool false) w := fun w => by kernel_rfl
 obtain ⟨i0, hi, hz0, hz1, hz2⟩ := termInfo
 have HI := (show Hid _ from hi); have HZ := (show Hid _ from And.intro hz0 (And.intro hz1 hz2)); clear hi hz0 hz1 hz2
 have HWI : Hid (IntKind.i64.wrap ((n : Int) + (n : Int)) = (n : Int) + (n : Int)) := by
  have := wrap_i64_nat (n + n) (by omega)
  rw [Int.natCast_add] at this
  exact this
 have HLE : Hid (¬ (100000 : Int) < (n : Int) + (n : Int)) := (by omega : ¬ (100000 : Int) < (n : Int) + (n : Int))
 have HOW : Hid (w.ownsRow base 43 13 (.slice (some ⟨g, 0, none⟩) n cn) n (trs T n)) := hown
 have HB : Hid (base ≤ w.heap.size ∧ (Value.slice (some ⟨g, 0, none⟩) n cn).ownBlock ≠ some B1 ∧ n + n ≤ 100000) := ⟨hbase, hne, hn⟩
 have HNW : Hid (∀ w', Below w.heap.size w w' → ∀ j u, (trs T n)[j]? = some u → w'.cell? ((⟨g, 0, none⟩ : Addr).add j) = some u) := fun w' hb j u hj => (own_belowAll hown hb).cells (g := g) rfl j u hj
 clear hown hbase hne hn
 go_enter Tryz.func20, Tryz.ntmps20
 go_upto_region 1 with fail
 refine wp_region_Z (fun w' => Lz w' B1 c (.slice (some ⟨g, 0, none⟩) n cn)) 99 (by kernel_rfl) ?_
 obtain ⟨wD, hD⟩ : ∃ x : World, x = w.drew := ⟨_, rfl⟩
 rw [← hD]
 have hp0_0 : Lz wD B1 c (.slice (some ⟨g, 0, none⟩) n cn) := by rw [hD]; exact hL
 have hlow0 : Below w.heap.size w wD := by rw [hD]; exact (Below.refl _ _).drew
 clear hD
 refine zs 0 5 (.pointer (some ⟨B1, 0, none⟩)) hp0_0 ?_
 refine zs 1 6 (.bool false) hp0_0 ?_
 refine zs 2 7 (.bool false) hp0_0 ?_
 refine zs 3 8 (.pointer (some ⟨B1, 0, none⟩)) hp0_0 ?_
 refine zs 4 9 (.pointer (some ⟨B1, 0, none⟩)) hp0_0 ?_
 refine zs 5 10 (.pointer (some ⟨B1, 0, none⟩)) hp0_0 ?_
 refine zT 6 11 (.int .i64 (c : Int)) rfl rfl (fun w hSw => by (obtain ⟨q0, q1, qf⟩ := hSw.cells; clear hSw; go_simp)) hp0_0 ?_
 refine zs 7 12 (.pointer (some ⟨B1, 0, none⟩)) hp0_0 ?_
 refine zs 8 13 (.pointer (some ⟨B1, 0, none⟩)) hp0_0 ?_
 refine zs 9 14 (.pointer (some ⟨B1, 0, none⟩)) hp0_0 ?_
 refine zT 10 15 (.int .i64 (c : Int)) rfl rfl (fun w hSw => by (obtain ⟨q0, q1, qf⟩ := hSw.cells; clear hSw; go_simp)) hp0_0 ?_
 refine zs 11 16 (.bool false) hp0_0 ?_
 refine zs 12 17 (.bool false) hp0_0 ?_
 refine zd ?_ _
 obtain ⟨W1, eW1⟩ : ∃ W : World, W = wD := ⟨_, rfl⟩
 have bL1 : Lz W1 B1 c (.slice (some ⟨g, 0, none⟩) n cn) := by rw [eW1]; exact hp0_0
 have hbW1 : Below w.heap.size w W1 := by rw [eW1]; exact hlow0
 rw [← eW1]
 clear eW1
 go_upto_region 3 with fail
 refine wp_region_Z (fun w' => Lz w' B1 c (.slice (some ⟨g, 0, none⟩) n cn)) 99 (by kernel_rfl) ?_
 obtain ⟨wE, hD⟩ : ∃ x : World, x = W1.drew := ⟨_, rfl⟩
 rw [← hD]
 have hq0_0 : Lz wE B1 c (.slice (some ⟨g, 0, none⟩) n cn) := by rw [hD]; exact bL1
 have hlox0 : Below W1.heap.size W1 wE := by rw [hD]; exact (Below.refl _ _).drew
 clear hD
 refine zs 0 18 (.pointer (some ⟨B1, 0, none⟩)) hq0_0 ?_
 refine zs 1 19 (.pointer (some ⟨B1, 0, none⟩)) hq0_0 ?_
 refine zs 2 20 (.pointer (some ⟨B1, 1, none⟩)) hq0_0 ?_
 refine zT 3 21 (.slice (some ⟨g, 0, none⟩) n cn) rfl rfl (fun w hSw => by (obtain ⟨q0, q1, qf⟩ := hSw.cells; clear hSw; go_simp)) hq0_0 ?_
 refine zs 4 22 (.int .i64 (n : Int)) hq0_0 ?_
 refine zs 5 23 (.pointer (some ⟨B1, 0, none⟩)) hq0_0 ?_
 refine zs 6 24 (.pointer (some ⟨B1, 0, none⟩)) hq0_0 ?_
 refine zs 7 25 (.pointer (some ⟨B1, 1, none⟩)) hq0_0 ?_
 refine zT 8 26 (.slice (some ⟨g, 0, none⟩) n cn) rfl rfl (fun w hSw => by (obtain ⟨q0, q1, qf⟩ := hSw.cells; clear hSw; go_simp)) hq0_0 ?_
 refine zs 9 27 (.int .i64 (n : Int)) hq0_0 ?_
 refine zT 10 28 (.int .i64 ((n : Int) + (n : Int))) rfl rfl (fun w hSw => by (go_simp; first | done | exact HWI.out | (have hx := HWI.out; simp at hx; exact hx))) hq0_0 ?_
 refine zT 11 29 (.bool false) rfl rfl (fun w hSw => by (have hle := HLE.out; go_simp)) hq0_0 ?_
 refine zd ?_ _
 obtain ⟨W2, eW2⟩ : ∃ W : World, W = wE := ⟨_, rfl⟩
 have bL2 : Lz W2 B1 c (.slice (some ⟨g, 0, none⟩) n cn) := by rw [eW2]; exact hq0_0
 have hbW2 : Below w.heap.size w W2 := by rw [eW2]; exact bStep hbW1 hlox0
 rw [← eW2]
 clear eW2
 go_upto_region 5 with fail
 refine wp_region_Z (fun w' => Lz w' B1 c (.slice (some ⟨g, 0, none⟩) n cn)) 12 (by kernel_rfl) ?_
 obtain ⟨wF, hD⟩ : ∃ x : World, x = W2.drew := ⟨_, rfl⟩
 rw [← hD]
 have hr0_0 : Lz wF B1 c (.slice (some ⟨g, 0, none⟩) n cn) := by rw [hD]; exact bL2
 have hloy0 : Below W2.heap.size W2 wF := by rw [hD]; exact (Below.refl _ _).drew
 clear hD
 refine zs 0 30 (.pointer (some ⟨B1, 0, none⟩)) hr0_0 ?_
 refine zs 1 31 (.pointer (some ⟨B1, 0, none⟩)) hr0_0 ?_
 refine zs 2 32 (.pointer (some ⟨B1, 0, none⟩)) hr0_0 ?_
 refine zs 3 33 (.pointer (some ⟨B1, 1, none⟩)) hr0_0 ?_
 refine zT 4 34 (.slice (some ⟨g, 0, none⟩) n cn) rfl rfl (fun w hSw => by (obtain ⟨q0, q1, qf⟩ := hSw.cells; clear hSw; go_simp)) hr0_0 ?_
 refine zs 5 35 (.pointer (some ⟨B1, 0, none⟩)) hr0_0 ?_
 refine zs 6 36 (.pointer (some ⟨B1, 0, none⟩)) hr0_0 ?_
 refine zs 7 37 (.pointer (some ⟨B1, 1, none⟩)) hr0_0 ?_
 refine zT 8 38 (.slice (some ⟨g, 0, none⟩) n cn) rfl rfl (fun w hSw => by (obtain ⟨q0, q1, qf⟩ := hSw.cells; clear hSw; go_simp)) hr0_0 ?_
 refine zo 9 rfl (fun K hK => ?_)
 have hbwB := bStep hbW2 hloy0
 have hownB : wF.ownsRow base 43 13 (.slice (some ⟨g, 0, none⟩) n cn) n (trs T n) := own_belowAll HOW.out hbwB
 rw [if_pos (show Region.wanted _ _ = true from rfl)]
 refine wp_append_sep wF _ _ 22 rfl base 43 i0 (.agg #[.int .u64 0, .int .u64 0, .int .u64 0, .int .u64 0, .int .u64 0, .int .u64 0, .int .u64 0, .int .u64 0, .int .u64 0, .int .u64 0, .int .u64 0, .int .u64 0, .bool false]) 13 104 Tryz.underlying22 HI.out HZ.out.1 HZ.out.2.1 HZ.out.2.2 rfl (by decide) (.slice (some ⟨g, 0, none⟩) n cn) n (trs T n) rfl hownB ⟨g, 0, none⟩ n cn (trs T n) rfl (trs_len _ _) (HNW.out _ hbwB) (trs_one _ _) ?c1 ?c2 ?c3 ?_
 case c1 => have := HB.out.2.2; unfold maxLen; omega
 case c2 => have := HB.out.2.2; omega
 case c3 => exact Nat.le_trans HB.out.1 hbwB.size
 intro v' wA hownA hgrow hsep
 rw [trs_add] at hownA
 have hV' : ∃ oa' cn', v' = .slice oa' (n + n) cn' := by
  rcases hownA.2 with ⟨rfl, h⟩ | ⟨g, cap, cur, rfl, _⟩
  ·rw [h]; exact ⟨_, _, rfl⟩
  ·exact ⟨_, _, rfl⟩
 obtain ⟨oa', cn', rfl⟩ := hV'
 have hnB : some B1 ≠ (.slice (some ⟨g, 0, none⟩) n cn : Value).ownBlock := fun h => HB.out.2.1 h.symm
 have hr0_1 : Lz wA B1 c (.slice (some ⟨g, 0, none⟩) n cn) := by unfold Lz; rw [hgrow.block B1 (hr0_0).lt hnB]; exact hr0_0
 have hbut : But w wA B1 (Value.slice (some ⟨g, 0, none⟩) n cn).ownBlock := ⟨hgrow.os.trans hbwB.os, hgrow.tape.trans hbwB.tape, hgrow.output.trans hbwB.output, Nat.le_trans hbwB.size hgrow.size, fun k hk _ h2 => (hgrow.block k (Nat.lt_of_lt_of_le hk hbwB.size) h2).trans (hbwB.block k hk)⟩
 have hvB : (Value.slice oa' (n + n) cn').ownBlock ≠ some B1 := own_new_ne hgrow hownA hr0_1
 have HSEP : Hid ((Value.slice oa' (n + n) cn').ownBlock = (Value.slice (some ⟨g, 0, none⟩) n cn).ownBlock ∨ ∃ b, (Value.slice oa' (n + n) cn').ownBlock = some b ∧ w.heap.size ≤ b) := by
  rcases hsep with h | h
  ·exact Or.inl h
  ·exact Or.inr ⟨_, h, hbwB.size⟩
 have HOA := (show Hid _ from hownA); have HBU : Hid (But w wA B1 (Value.slice (some ⟨g, 0, none⟩) n cn).ownBlock) := hbut; have HVB : Hid ((Value.slice oa' (n + n) cn').ownBlock ≠ some B1) := hvB
 clear hownA hgrow hbut hvB hnB hownB hbwB hsep
 go_simp
 refine hK.out _ _ (fun _ => hr0_1) ?_
 clear hK K
 refine zo 10 rfl (fun K hK => ?_)
 go_simp
 refine hK.out _ _ (fun _ => hr0_1) ?_
 clear hK K
 refine zs 11 41 (.pointer (some ⟨B1, 1, none⟩)) hr0_1 ?_
 refine zo 12 rfl (fun K hK => ?_)
 obtain ⟨g0, g1, gf⟩ := (hr0_1).cells
 go_simp
 refine hK.out _ _ (fun h => absurd rfl h) ?_
 clear hK K
 refine zd ?_ _
 go_wp2
 go_ret
 have hOS := own_set (u := .slice oa' (n + n) cn') HOA.out HVB.out
 exact ⟨⟨.slice oa' (n + n) cn', rfl, (hr0_1).set _, hOS, HVB.out, HSEP.out⟩, but_set HBU.out _⟩
end Go.Proofs.YtokoknacolmhgaaGreatDoor
