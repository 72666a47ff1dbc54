import Derived.Test.YtokoknacolmhgaaGreatDoorWMS17
import Derived.Test.YtokoknacolmhgaaGreatDoorWXL
import Derived.Test.YtokoknacolmhgaaGreatDoorWMS18
import Derived.Test.YtokoknacolmhgaaGreatDoorWMS20
import Derived.Test.YtokoknacolmhgaaGreatDoorWMS33
set_option maxHeartbeats 4000000
namespace Go.Proofs.YtokoknacolmhgaaGreatDoor
open Go.RowKit
set_option maxRecDepth 20000 in
theorem rvalue_any (c n : Nat) (x : Value) (T : Nat → Nat × Nat × Nat × Bool) (hc : c < 4) (hn : n ≤ 100000) (hT : ∀ i, i < n → (T i).1 < 115792089237316195423570985008687907853269984665640564039457584007913129639936 ∧ (T i).2.1 < 115792089237316195423570985008687907853269984665640564039457584007913129639936 ∧ (T i).2.2.1 < 115792089237316195423570985008687907853269984665640564039457584007913129639936) (hP : ∀ i, i < n → onT c (T i).2) (w : World) (hv : Rs w x 13 n (fun i => tC (T i))) :
  Calls Tryz.prog 23 #[.int .i64 (c : Int), x] w fun e w' => (∃ a b k, e = .returned (.agg #[.int .u64 (limb 0 a), .int .u64 (limb 1 a), .int .u64 (limb 2 a), .int .u64 (limb 3 a), .int .u64 (limb 0 b), .int .u64 (limb 1 b), .int .u64 (limb 2 b), .int .u64 (limb 3 b), .bool k]) ∧ (a, b, k) = tot c (fun i => (T i).1 % modN (xc c)) (fun i => (T i).2) n) ∧ Below w.heap.size w w' := by
 have HSU : Hid (∀ w', Below w.heap.size w w' → Calls Tryz.prog 12 #[.int .i64 (c : Int), x] w' fun e w'' => e = .returned (.tuple #[.agg #[.int .u64 ((limb 0 ((tot c (fun i => (T i).1 % modN (xc c)) (fun i => (T i).2) n).1) : Nat) : Int), .int .u64 ((limb 1 ((tot c (fun i => (T i).1 % modN (xc c)) (fun i => (T i).2) n).1) : Nat) : Int), .int .u64 ((limb 2 ((tot c (fun i => (T i).1 % modN (xc c)) (fun i => (T i).2) n).1) : Nat) : Int), .int .u64 ((limb 3 ((tot c (fun i => (T i).1 % modN (xc c)) (fun i => (T i).2) n).1) : Nat) : Int), .int .u64 ((limb 0 ((tot c (fun i => (T i).1 % modN (xc c)) (fun i => (T i).2) n).2.1) : Nat) : Int), .int .u64 ((limb 1 ((tot c (fun i => (T i).1 % modN (xc c)) (fun i => (T i).2) n).2.1) : Nat) : Int), .int .u64 ((limb 2 ((tot c (fun i => (T i).1 % modN (xc c)) (fun i => (T i).2) n).2.1) : Nat) : Int), .int .u64 ((limb 3 ((tot c (fun i => (T i).1 % modN (xc c)) (fun i => (T i).2) n).2.1) : Nat) : Int), .bool (tot c (fun i => (T i).1 % modN (xc c)) (fun i => (T i).2) n).2.2], .int .i64 0]) ∧ Below w'.heap.size w' w'') := fun w' hb => by
  obtain ⟨oa, cn, rfl⟩ := hv.shape
  refine (rsum_in c n cn oa T hc hn hT w' (hv.below hb)).mono ?_
  rintro e w'' ⟨⟨a, b, k, E, rfl, hh | hh⟩, hb2⟩
  ·obtain ⟨rfl, _, hq⟩ := hh
   rw [← hq]
   exact ⟨rfl, hb2⟩
  ·exact absurd hP hh.2.1
 obtain ⟨qx, ex⟩ : ∃ z, z = (tot c (fun i => (T i).1 % modN (xc c)) (fun i => (T i).2) n).1 := ⟨_, rfl⟩
 obtain ⟨qy, ey⟩ : ∃ z, z = (tot c (fun i => (T i).1 % modN (xc c)) (fun i => (T i).2) n).2.1 := ⟨_, rfl⟩
 obtain ⟨qi, ei⟩ : ∃ z, z = (tot c (fun i => (T i).1 % modN (xc c)) (fun i => (T i).2) n).2.2 := ⟨_, rfl⟩
 have HQ : Hid ((qx, qy, qi) = tot c (fun i => (T i).1 % modN (xc c)) (fun i => (T i).2) n) := by rw [ex, ey, ei]; rfl
 rw [← ex, ← ey, ← ei] at HSU
 clear ex ey ei hc hn hT hP hv
 go_enter Tryz.func23, Tryz.ntmps23
 go_upto_region 1 with fail
 obtain ⟨R, eR⟩ : ∃ R, R = w.heap.size := ⟨_, rfl⟩
 obtain ⟨w0, hw0⟩ : ∃ w0 : World, w0 = w.alloc (.cells #[.int .u64 0, .int .u64 0, .int .u64 0, .int .u64 0, .int .u64 0, .int .u64 0, .int .u64 0, .int .u64 0, .bool false] 30) := ⟨_, rfl⟩
 have bR0 : Pt w0 R 0 0 false := by rw [hw0, eR]; exact Pt.zeroAt _ _ rfl
 have hb0 : Below w.heap.size w w0 := by rw [hw0]; exact (Below.refl _ _).alloc (Nat.le_refl _) _
 have lR : w.heap.size ≤ R := by omega
 rw [← hw0]
 rw [← eR]
 clear hw0 eR
 go_wp2_with fail
 refine (HSU.out _ hb0).mono ?_
 rintro e w1 ⟨rfl, hb1⟩
 have bR2 := (bR0.belowAll hb1).alloc (.cells #[.int .u64 (limb 0 qx), .int .u64 (limb 1 qx), .int .u64 (limb 2 qx), .int .u64 (limb 3 qx), .int .u64 (limb 0 qy), .int .u64 (limb 1 qy), .int .u64 (limb 2 qy), .int .u64 (limb 3 qy), .bool qi] 30)
 have bq2 : Pt (w1.alloc (.cells #[.int .u64 (limb 0 qx), .int .u64 (limb 1 qx), .int .u64 (limb 2 qx), .int .u64 (limb 3 qx), .int .u64 (limb 0 qy), .int .u64 (limb 1 qy), .int .u64 (limb 2 qy), .int .u64 (limb 3 qy), .bool qi] 30)) w1.heap.size qx qy qi := Pt.newAt _ _ _ _ _ rfl
 have hbw2 := bAlloc (bStep hb0 hb1) (.cells #[.int .u64 (limb 0 qx), .int .u64 (limb 1 qx), .int .u64 (limb 2 qx), .int .u64 (limb 3 qx), .int .u64 (limb 0 qy), .int .u64 (limb 1 qy), .int .u64 (limb 2 qy), .int .u64 (limb 3 qy), .bool qi] 30)
 clear bR0 hb0 hb1 HSU
 go_upto_region 2 with fail
 obtain ⟨w2, hw2⟩ : ∃ WW : World, WW = w1.alloc (.cells #[.int .u64 (limb 0 qx), .int .u64 (limb 1 qx), .int .u64 (limb 2 qx), .int .u64 (limb 3 qx), .int .u64 (limb 0 qy), .int .u64 (limb 1 qy), .int .u64 (limb 2 qy), .int .u64 (limb 3 qy), .bool qi] 30) := ⟨_, rfl⟩
 obtain ⟨N5, hN5⟩ : ∃ N, N = w1.heap.size := ⟨_, rfl⟩
 rw [← hw2] at bR2 bq2 hbw2 ⊢
 rw [← hN5] at bq2 ⊢
 clear hw2 hN5
 obtain ⟨q0, q1, q2, q3, q4, q5, q6, q7, q8, qf⟩ := bq2.cells
 obtain ⟨r0, r1, r2, r3, r4, r5, r6, r7, r8, rf⟩ := bR2.cells
 go_wp2
 refine bodyPost_ret (v := .agg #[.int .u64 (limb 0 qx), .int .u64 (limb 1 qx), .int .u64 (limb 2 qx), .int .u64 (limb 3 qx), .int .u64 (limb 0 qy), .int .u64 (limb 1 qy), .int .u64 (limb 2 qy), .int .u64 (limb 3 qy), .bool qi]) (by simp [results, Tryz.results23, go_sem, r0, r1, r2, r3, r4, r5, r6, r7, r8]) rfl ⟨⟨qx, qy, qi, rfl, HQ.out⟩, ?_⟩
 exact bSet9 hbw2 lR _ _ _ _ _ _ _ _ _
def Lists (w : World) (M : Nat) (L : Nat → Value) (N : Nat → Nat) (F : Nat → Nat → Nat × Nat × Nat × Bool) : Prop :=
 (∀ i, i < 4 → w.ownsRow M 43 13 (L i) (N i) (trs (F i) (N i))) ∧ ∀ i j, i < 4 → j < 4 → i ≠ j → ∀ b, (L i).ownBlock = some b → (L j).ownBlock ≠ some b
theorem Lists.one {w w' : World} {M : Nat} {L : Nat → Value} {N : Nat → Nat} {F : Nat → Nat → Nat × Nat × Nat × Bool} (h : Lists w M L N F) (i : Nat) (v : Value) (n : Nat) (G : Nat → Nat × Nat × Nat × Bool)
  (hk : ∀ b, b < w.heap.size → (∃ j, j < 4 ∧ j ≠ i ∧ (L j).ownBlock = some b) → w'.heap[b]? = w.heap[b]?) (ho : w'.ownsRow M 43 13 v n (trs G n)) (hs : ∀ b, v.ownBlock = some b → (L i).ownBlock = some b ∨ w.heap.size ≤ b) (hi : i < 4) :
  Lists w' M (fun j => if j = i then v else L j) (fun j => if j = i then n else N j) (fun j => if j = i then G else F j) := by
 have new : ∀ j, j < 4 → j ≠ i → ∀ b, (L j).ownBlock = some b → v.ownBlock ≠ some b := fun j hj hne b hb hv => by
  rcases hs b hv with h1 | h2
  ·exact h.2 i j hi hj (fun e => hne e.symm) b h1 hb
  ·have := ((h.1 j hj).lt b hb).2
   omega
 refine ⟨fun j hj => ?_, fun j k hj hk2 hne b hb => ?_⟩
 ·dsimp only
  by_cases e : j = i
  ·rw [if_pos e, if_pos e, if_pos e]
   exact ho
  ·rw [if_neg e, if_neg e, if_neg e]
   have hr := h.1 j hj
   refine ⟨hr.1, ?_⟩
   rcases hr.2 with hn | ⟨g, cap, cur, hL, hb, hg, rest⟩
   ·exact Or.inl hn
   ·refine Or.inr ⟨g, cap, cur, hL, hb, ?_, rest⟩
    rw [hk g (Array.getElem?_eq_some_iff.1 hg).1 ⟨j, hj, e, by rw [hL]; rfl⟩]
    exact hg
 ·dsimp only at hb ⊢
  by_cases e : j = i
  ·rw [if_pos e] at hb
   by_cases e2 : k = i
   ·omega
   ·rw [if_neg e2]
    exact fun h2 => new k hk2 e2 b h2 hb
  ·rw [if_neg e] at hb
   by_cases e2 : k = i
   ·rw [if_pos e2]
    exact new j hj e b hb
   ·rw [if_neg e2]
    exact h.2 j k hj hk2 hne b hb
end Go.Proofs.YtokoknacolmhgaaGreatDoor
namespace Go.Proofs.YtokoknacolmhgaaGreatDoor
open Go.RowKit
def oC (U : Int × Nat × Nat × Nat × Bool) (j : Nat) : Value := if j = 0 then .int .i64 U.1 else tC U.2 (j - 1)
def opOk (U : Int × Nat × Nat × Nat × Bool) : Prop := (Lit.int .i64 U.1).wf = true ∧ U.2.1 < 115792089237316195423570985008687907853269984665640564039457584007913129639936 ∧ U.2.2.1 < 115792089237316195423570985008687907853269984665640564039457584007913129639936 ∧ U.2.2.2.1 < 115792089237316195423570985008687907853269984665640564039457584007913129639936
theorem list3t {α : Type} (l : List α) (h : l.length = 3) : ∃ a b c, l = [a, b, c] := by
 match l, h with
 | [a, b, c], _ => exact ⟨a, b, c, rfl⟩
set_option maxRecDepth 100000 in
theorem fieldsOp : ∃ n0 n1 n2 : Field, (Tryz.prog.fieldsOf 40).toList = [n0, n1, n2] ∧ n0.type = 3 ∧ n1.type = 28 ∧ n2.type = 30 ∧ n0.offset = 0 ∧ n1.offset = 1 ∧ n2.offset = 5 := by
 have h : (Tryz.prog.fieldsOf 40).toList.map (fun f => (f.name, f.type, f.offset)) = [("What", 3, 0), ("K", 28, 1), ("P", 30, 5)] := by kernel_rfl
 have hlen : (Tryz.prog.fieldsOf 40).toList.length = 3 := by
  have := congrArg List.length h
  simpa using this
 obtain ⟨n0, n1, n2, hl⟩ := list3t _ hlen
 rw [hl] at h ⊢
 simp only [List.map_cons, List.map_nil, List.cons.injEq, Prod.mk.injEq, and_true] at h
 obtain ⟨⟨_, a2, a3⟩, ⟨_, b2, b3⟩, ⟨_, c2, c3⟩⟩ := h
 exact ⟨n0, n1, n2, rfl, a2, b2, c2, a3, b3, c3⟩
end Go.Proofs.YtokoknacolmhgaaGreatDoor
namespace Go.Proofs.YtokoknacolmhgaaGreatDoor
open Go.RowKit
theorem trs_app0 (T V : Nat → Nat × Nat × Nat × Bool) (n : Nat) : trs (app2 T n V) n = trs T n :=
 trs_congr fun i hi => by unfold app2; rw [if_pos hi]
theorem join_any (B1 B2 c n q base : Nat) (v u : Value) (T V : Nat → Nat × Nat × Nat × Bool) (hn : n + q ≤ 100000) (w : World) (hL : Lz w B1 c v) (hM : Lz w B2 c u) (hown : w.ownsRow base 43 13 v n (trs T n)) (hown2 : w.ownsRow base 43 13 u q (trs V q)) (hbase : base ≤ w.heap.size) :
  Calls Tryz.prog 20 #[.pointer (some ⟨B1, 0, none⟩), .pointer (some ⟨B2, 0, none⟩)] w fun e w' => JoinE w w' B1 c base (n + q) (app2 T n V) v.ownBlock e ∧ But w w' B1 v.ownBlock := by
 have hne := own_ne hown hL
 have hne2 := own_ne hown hM
 obtain ⟨oa, cn, rfl⟩ := own_sl hown
 have hR := own_Rs hown2
 rcases hR with ⟨rfl, rfl⟩ | ⟨gb, ob, cq, rfl, _, _, hgb, hc⟩
 ·refine (join_none B1 B2 c n base cn oa T hn w hL hM hown hbase hne hne2).mono ?_
  rintro e w' ⟨⟨v', he, h1, h2, h3⟩, hb⟩
  exact ⟨⟨v', he, h1, by rw [show n + 0 = n from rfl, trs_app0]; exact h2, h3⟩, hb⟩
 ·exact join_some B1 B2 c n q base gb ob cn cq oa T V hn w hL hM hown hbase hne hne2 hgb hc
theorem join_self_any (B1 c n base : Nat) (v : Value) (T : Nat → Nat × Nat × Nat × Bool) (hn : n + n ≤ 100000) (w : World) (hL : Lz w B1 c v) (hown : w.ownsRow base 43 13 v n (trs T n)) (hbase : base ≤ w.heap.size) :
  Calls Tryz.prog 20 #[.pointer (some ⟨B1, 0, none⟩), .pointer (some ⟨B1, 0, none⟩)] w fun e w' => JoinE w w' B1 c base (n + n) (app2 T n T) v.ownBlock e ∧ But w w' B1 v.ownBlock := by
 have hne := own_ne hown hL
 have ho := hown
 rcases hown with ⟨_, ⟨rfl, rfl⟩ | ⟨g, cap, cur, rfl, _⟩⟩
 ·exact join_any B1 B1 c 0 0 base _ _ T T hn w hL hL ho ho hbase
 ·exact join_self B1 c n base cap g T hn w hL ho hbase hne
theorem radd0_any (s K : Nat) (hs : s < 4) (hK : K < 115792089237316195423570985008687907853269984665640564039457584007913129639936) (w : World) :
  Calls Tryz.prog 15 #[.int .i64 (s : Int), .agg #[.int .u64 (limb 0 K), .int .u64 (limb 1 K), .int .u64 (limb 2 K), .int .u64 (limb 3 K)], .agg #[.int .u64 0, .int .u64 0, .int .u64 0, .int .u64 0]] w fun e w' => e = .returned (.agg #[.int .u64 (limb 0 (K % modN s)), .int .u64 (limb 1 (K % modN s)), .int .u64 (limb 2 (K % modN s)), .int .u64 (limb 3 (K % modN s))]) ∧ Below w.heap.size w w' :=
 (ref2Add_any s K 0 hs hK (by decide) w : _)
end Go.Proofs.YtokoknacolmhgaaGreatDoor
namespace Go.Proofs.YtokoknacolmhgaaGreatDoor
open Go.RowKit
def St (w0 w : World) (B1 B2 Z c : Nat) (L : Nat → Value) (N : Nat → Nat) (F : Nat → Nat → Nat × Nat × Nat × Bool) : Prop :=
 Below w0.heap.size w0 w ∧ (w0.heap.size ≤ B1 ∧ w0.heap.size ≤ B2 ∧ w0.heap.size ≤ Z ∧ B1 ≠ B2) ∧ Lz w B1 c (L 0) ∧ Lz w B2 c (L 1) ∧ Lists w w0.heap.size L N F ∧ Blk w 28 Z (fun _ => 0)
def upd {α : Type} (f : Nat → α) (i : Nat) (a : α) (j : Nat) : α := if j = i then a else f j
theorem upd_same {α : Type} (f : Nat → α) (i : Nat) (a : α) : upd f i a i = a := if_pos rfl
theorem upd_far {α : Type} (f : Nat → α) {i j : Nat} (a : α) (h : j ≠ i) : upd f i a j = f j := if_neg h
theorem sepW {v : Value} {r : Option Nat} {M : Nat} (h : v.ownBlock = r ∨ ∃ b, v.ownBlock = some b ∧ M ≤ b) : ∀ b, v.ownBlock = some b → r = some b ∨ M ≤ b := fun b hb => by
 rcases h with h | ⟨g, h, hg⟩
 ·exact Or.inl (h ▸ hb)
 ·rw [h] at hb
  cases hb
  exact Or.inr hg
theorem own_base {w : World} {m base n : Nat} {v : Value} {xs : List Value} (h : w.ownsRow m 43 13 v n xs) (hm : base ≤ m) : w.ownsRow base 43 13 v n xs := by
 refine ⟨h.1, ?_⟩
 rcases h.2 with hn | ⟨g, cap, cur, hL, hb, rest⟩
 ·exact Or.inl hn
 ·exact Or.inr ⟨g, cap, cur, hL, Nat.le_trans hm hb, rest⟩
theorem grown_of_below {w w' : World} (h : Below w.heap.size w w') (row : Option Nat) : w.grownBy w' row := ⟨h.os, h.tape, h.output, h.size, fun k hk _ => h.block k hk⟩
section
variable {w0 w w' : World} {B1 B2 Z c : Nat} {L : Nat → Value} {N : Nat → Nat} {F : Nat → Nat → Nat × Nat × Nat × Bool}
theorem lz_ne_blk {B b : Nat} {v : Value} {f : Nat → Nat} (h : Lz w B c v) (hB : Blk w 28 b f) : B ≠ b := by
 rintro rfl
 unfold Blk at hB
 unfold Lz at h
 rw [hB] at h
 cases h
theorem Lz.of_block {B : Nat} {v : Value} (h : Lz w B c v) (e : w'.heap[B]? = w.heap[B]?) : Lz w' B c v := by
 unfold Lz at h ⊢
 rw [e]
 exact h
theorem Lists.keep {M : Nat} (h : Lists w M L N F) (hb : ∀ b, b < w.heap.size → w'.heap[b]? = w.heap[b]?) : Lists w' M L N F := by
 refine ⟨fun j hj => ?_, h.2⟩
 have hr := h.1 j hj
 refine ⟨hr.1, ?_⟩
 rcases hr.2 with hn | ⟨g, cap, cur, hL, hbs, hg, rest⟩
 ·exact Or.inl hn
 ·refine Or.inr ⟨g, cap, cur, hL, hbs, ?_, rest⟩
  rw [hb g (Array.getElem?_eq_some_iff.1 hg).1]
  exact hg
theorem St.belowAll (h : St w0 w B1 B2 Z c L N F) (hb : Below w.heap.size w w') : St w0 w' B1 B2 Z c L N F := by
 obtain ⟨h1, h2, h3, h4, h5, h6⟩ := h
 exact ⟨bStep h1 hb, h2, h3.belowAll hb, h4.belowAll hb, h5.keep (fun b hl => hb.block b hl), h6.belowAll hb⟩
theorem St.put0 {v : Value} {n : Nat} {G : Nat → Nat × Nat × Nat × Bool} (h : St w0 w B1 B2 Z c L N F) (hL : Lz w' B1 c v) (ho : w'.ownsRow w0.heap.size 43 13 v n (trs G n)) (hs : v.ownBlock = (L 0).ownBlock ∨ ∃ b, v.ownBlock = some b ∧ w.heap.size ≤ b) (hb : But w w' B1 (L 0).ownBlock) :
  St w0 w' B1 B2 Z c (upd L 0 v) (upd N 0 n) (upd F 0 G) := by
 obtain ⟨h1, h2, h3, h4, h5, h6⟩ := h
 have o0 := h5.1 0 (by decide)
 refine ⟨?_, h2, by rw [upd_same]; exact hL, ?_, ?_, ?_⟩
 ·refine h1.trans ⟨hb.1, hb.2.1, hb.2.2.1, hb.2.2.2.1, fun k hk => hb.2.2.2.2 k (Nat.lt_of_lt_of_le hk h1.size) (by omega) (fun e => ?_)⟩
  have := (o0.lt k e.symm).1
  omega
 ·rw [upd_far L v (by decide)]
  exact h4.of_block (hb.keep h4.lt (fun e => h2.2.2.2 e.symm) (fun e => own_ne o0 h4 e.symm))
 ·refine h5.one 0 v n G (fun b hl ⟨j, hj, hne, hjb⟩ => hb.keep hl (fun e => ?_) (fun e => ?_)) ho (sepW hs) (by decide)
  ·exact own_ne (h5.1 j hj) h3 (by rw [hjb, e])
  ·exact h5.2 j 0 hj (by decide) hne b hjb e.symm
 ·exact h6.of_block (hb.keep h6.lt (fun e => lz_ne_blk h3 h6 e.symm) (fun e => own_not_blk o0 h6 e.symm))
theorem St.put1 {v : Value} {n : Nat} {G : Nat → Nat × Nat × Nat × Bool} (h : St w0 w B1 B2 Z c L N F) (hL : Lz w' B2 c v) (ho : w'.ownsRow w0.heap.size 43 13 v n (trs G n)) (hs : v.ownBlock = (L 1).ownBlock ∨ ∃ b, v.ownBlock = some b ∧ w.heap.size ≤ b) (hb : But w w' B2 (L 1).ownBlock) :
  St w0 w' B1 B2 Z c (upd L 1 v) (upd N 1 n) (upd F 1 G) := by
 obtain ⟨h1, h2, h3, h4, h5, h6⟩ := h
 have o1 := h5.1 1 (by decide)
 refine ⟨?_, h2, ?_, by rw [upd_same]; exact hL, ?_, ?_⟩
 ·refine h1.trans ⟨hb.1, hb.2.1, hb.2.2.1, hb.2.2.2.1, fun k hk => hb.2.2.2.2 k (Nat.lt_of_lt_of_le hk h1.size) (by omega) (fun e => ?_)⟩
  have := (o1.lt k e.symm).1
  omega
 ·rw [upd_far L v (by decide)]
  exact h3.of_block (hb.keep h3.lt h2.2.2.2 (fun e => own_ne o1 h3 e.symm))
 ·refine h5.one 1 v n G (fun b hl ⟨j, hj, hne, hjb⟩ => hb.keep hl (fun e => ?_) (fun e => ?_)) ho (sepW hs) (by decide)
  ·exact own_ne (h5.1 j hj) h4 (by rw [hjb, e])
  ·exact h5.2 j 1 hj (by decide) hne b hjb e.symm
 ·exact h6.of_block (hb.keep h6.lt (fun e => lz_ne_blk h4 h6 e.symm) (fun e => own_not_blk o1 h6 e.symm))
theorem St.putOwn (i : Nat) {v : Value} {n : Nat} {G : Nat → Nat × Nat × Nat × Bool} (h : St w0 w B1 B2 Z c L N F) (h2i : 2 ≤ i) (hi : i < 4) (ho : w'.ownsRow w0.heap.size 43 13 v n (trs G n)) (hs : ∀ b, v.ownBlock = some b → (L i).ownBlock = some b ∨ w.heap.size ≤ b) (hb : w.grownBy w' (L i).ownBlock) :
  St w0 w' B1 B2 Z c (upd L i v) (upd N i n) (upd F i G) := by
 obtain ⟨h1, h2, h3, h4, h5, h6⟩ := h
 have oi := h5.1 i hi
 refine ⟨?_, h2, ?_, ?_, ?_, ?_⟩
 ·refine h1.trans ⟨hb.os, hb.tape, hb.output, hb.size, fun k hk => hb.block k (Nat.lt_of_lt_of_le hk h1.size) (fun e => ?_)⟩
  have := (oi.lt k e.symm).1
  omega
 ·rw [upd_far L v (by omega)]
  exact h3.of_block (hb.block B1 h3.lt (fun e => own_ne oi h3 e.symm))
 ·rw [upd_far L v (by omega)]
  exact h4.of_block (hb.block B2 h4.lt (fun e => own_ne oi h4 e.symm))
 ·exact h5.one i v n G (fun b hl ⟨j, hj, hne, hjb⟩ => hb.block b hl (fun e => h5.2 j i hj hi hne b hjb e.symm)) ho hs hi
 ·exact h6.of_block (hb.block Z h6.lt (fun e => own_not_blk oi h6 e.symm))
end
end Go.Proofs.YtokoknacolmhgaaGreatDoor
namespace Go.Proofs.YtokoknacolmhgaaGreatDoor
open Go.RowKit
theorem three_new (w : World) (o1 o2 o3 : Obj) : (((w.alloc o1).alloc o2).alloc o3).heap[w.heap.size]? = some o1 ∧ (((w.alloc o1).alloc o2).alloc o3).heap[w.heap.size + 1]? = some o2 ∧ (((w.alloc o1).alloc o2).alloc o3).heap[w.heap.size + 1 + 1]? = some o3 := by
 have s1 : (w.alloc o1).heap.size = w.heap.size + 1 := Array.size_push ..
 have s2 : ((w.alloc o1).alloc o2).heap.size = w.heap.size + 1 + 1 := by rw [← s1]; exact Array.size_push ..
 refine ⟨((bAlloc (bAlloc (Below.refl (w.alloc o1).heap.size (w.alloc o1)) o2) o3).block w.heap.size (by omega)).trans (new_blockT w o1), ((bAlloc (Below.refl ((w.alloc o1).alloc o2).heap.size _) o3).block (w.heap.size + 1) (by omega)).trans ?_, ?_⟩
 ·rw [← s1]
  exact new_blockT _ o2
 ·rw [← s2]
  exact new_blockT _ o3
theorem Rs.at14 {w : World} {n k : Nat} {oa : Option Addr} {cn : Nat} {F : Nat → Nat → Value} (h : Rs w (.slice oa n cn) 14 n F) (hk : k < n) : ∃ b o, oa = some ⟨b, o, none⟩ ∧ b < w.heap.size ∧ ∀ j, j < 14 → w.cell? ⟨b, o + k * 14 + j, none⟩ = some (F k j) := by
 rcases h with ⟨h1, h2⟩ | ⟨b, o, c, h1, _, _, h3, h4⟩
 ·omega
 ·cases h1
  exact ⟨b, o, rfl, h3, h4 k hk⟩
def OpB (w : World) (b : Nat) (W : Int) (K X Y : Nat) (I : Bool) : Prop := w.heap[b]? = some (.cells #[.int .i64 W, .int .u64 (limb 0 K), .int .u64 (limb 1 K), .int .u64 (limb 2 K), .int .u64 (limb 3 K), .int .u64 (limb 0 X), .int .u64 (limb 1 X), .int .u64 (limb 2 X), .int .u64 (limb 3 X), .int .u64 (limb 0 Y), .int .u64 (limb 1 Y), .int .u64 (limb 2 Y), .int .u64 (limb 3 Y), .bool I] 40)
theorem OpB.lt {w : World} {b : Nat} {W : Int} {K X Y : Nat} {I : Bool} (h : OpB w b W K X Y I) : b < w.heap.size := (Array.getElem?_eq_some_iff.1 h).1
theorem OpB.belowAll {w w' : World} {b : Nat} {W : Int} {K X Y : Nat} {I : Bool} (h : OpB w b W K X Y I) (hb : Below w.heap.size w w') : OpB w' b W K X Y I := (hb.block b h.lt).trans h
theorem OpB.cells {w : World} {b : Nat} {W : Int} {K X Y : Nat} {I : Bool} (h : OpB w b W K X Y I) : w.cell? ⟨b, 0, none⟩ = some (.int .i64 W) ∧ w.cell? ⟨b, 1, none⟩ = some (.int .u64 (limb 0 K)) ∧ w.cell? ⟨b, 2, none⟩ = some (.int .u64 (limb 1 K)) ∧ w.cell? ⟨b, 3, none⟩ = some (.int .u64 (limb 2 K)) ∧ w.cell? ⟨b, 4, none⟩ = some (.int .u64 (limb 3 K)) ∧ w.cell? ⟨b, 5, none⟩ = some (.int .u64 (limb 0 X)) ∧ w.cell? ⟨b, 6, none⟩ = some (.int .u64 (limb 1 X)) ∧ w.cell? ⟨b, 7, none⟩ = some (.int .u64 (limb 2 X)) ∧ w.cell? ⟨b, 8, none⟩ = some (.int .u64 (limb 3 X)) ∧ w.cell? ⟨b, 9, none⟩ = some (.int .u64 (limb 0 Y)) ∧ w.cell? ⟨b, 10, none⟩ = some (.int .u64 (limb 1 Y)) ∧ w.cell? ⟨b, 11, none⟩ = some (.int .u64 (limb 2 Y)) ∧ w.cell? ⟨b, 12, none⟩ = some (.int .u64 (limb 3 Y)) ∧ w.cell? ⟨b, 13, none⟩ = some (.bool I) ∧ ∀ o, w.frozen? ⟨b, o, none⟩ = false := by
 unfold OpB at h
 refine ⟨?_, ?_, ?_, ?_, ?_, ?_, ?_, ?_, ?_, ?_, ?_, ?_, ?_, ?_, ?_⟩
 all_goals first | (intro o; simp [World.frozen?, h]; done) | simp [World.cell?, h]
theorem set_at {w : World} {b : Nat} {cur : Array Value} {t : TypeId} (h : w.heap[b]? = some (.cells cur t)) (o : Nat) (u : Value) : (w.setCell ⟨b, o, none⟩ u).heap[b]? = some (.cells (cur.setIfInBounds o u) t) := by
 simp [World.setCell, Array.getElem?_modify, h]
theorem OpB.new (w : World) (W : Int) (K X Y : Nat) (I : Bool) : OpB (((((((((((((((w.alloc (.cells #[.int .i64 0, .int .u64 0, .int .u64 0, .int .u64 0, .int .u64 0, .int .u64 0, .int .u64 0, .int .u64 0, .int .u64 0, .int .u64 0, .int .u64 0, .int .u64 0, .int .u64 0, .bool false] 40)).setCell ⟨w.heap.size, 0, none⟩ (.int .i64 W)).setCell ⟨w.heap.size, 1, none⟩ (.int .u64 (limb 0 K))).setCell ⟨w.heap.size, 2, none⟩ (.int .u64 (limb 1 K))).setCell ⟨w.heap.size, 3, none⟩ (.int .u64 (limb 2 K))).setCell ⟨w.heap.size, 4, none⟩ (.int .u64 (limb 3 K))).setCell ⟨w.heap.size, 5, none⟩ (.int .u64 (limb 0 X))).setCell ⟨w.heap.size, 6, none⟩ (.int .u64 (limb 1 X))).setCell ⟨w.heap.size, 7, none⟩ (.int .u64 (limb 2 X))).setCell ⟨w.heap.size, 8, none⟩ (.int .u64 (limb 3 X))).setCell ⟨w.heap.size, 9, none⟩ (.int .u64 (limb 0 Y))).setCell ⟨w.heap.size, 10, none⟩ (.int .u64 (limb 1 Y))).setCell ⟨w.heap.size, 11, none⟩ (.int .u64 (limb 2 Y))).setCell ⟨w.heap.size, 12, none⟩ (.int .u64 (limb 3 Y))).setCell ⟨w.heap.size, 13, none⟩ (.bool I)) w.heap.size W K X Y I := by
 unfold OpB
 have h := new_blockT w (.cells #[.int .i64 0, .int .u64 0, .int .u64 0, .int .u64 0, .int .u64 0, .int .u64 0, .int .u64 0, .int .u64 0, .int .u64 0, .int .u64 0, .int .u64 0, .int .u64 0, .int .u64 0, .bool false] 40)
 have h := set_at h 0 (.int .i64 W)
 have h := set_at h 1 (.int .u64 (limb 0 K))
 have h := set_at h 2 (.int .u64 (limb 1 K))
 have h := set_at h 3 (.int .u64 (limb 2 K))
 have h := set_at h 4 (.int .u64 (limb 3 K))
 have h := set_at h 5 (.int .u64 (limb 0 X))
 have h := set_at h 6 (.int .u64 (limb 1 X))
 have h := set_at h 7 (.int .u64 (limb 2 X))
 have h := set_at h 8 (.int .u64 (limb 3 X))
 have h := set_at h 9 (.int .u64 (limb 0 Y))
 have h := set_at h 10 (.int .u64 (limb 1 Y))
 have h := set_at h 11 (.int .u64 (limb 2 Y))
 have h := set_at h 12 (.int .u64 (limb 3 Y))
 have h := set_at h 13 (.bool I)
 rw [h]
 simp
def TmB (w : World) (b : Nat) (K X Y : Nat) (I : Bool) : Prop := w.heap[b]? = some (.cells #[.int .u64 (limb 0 K), .int .u64 (limb 1 K), .int .u64 (limb 2 K), .int .u64 (limb 3 K), .int .u64 (limb 0 X), .int .u64 (limb 1 X), .int .u64 (limb 2 X), .int .u64 (limb 3 X), .int .u64 (limb 0 Y), .int .u64 (limb 1 Y), .int .u64 (limb 2 Y), .int .u64 (limb 3 Y), .bool I] 43)
theorem TmB.lt {w : World} {b : Nat} {K X Y : Nat} {I : Bool} (h : TmB w b K X Y I) : b < w.heap.size := (Array.getElem?_eq_some_iff.1 h).1
theorem TmB.belowAll {w' : World} {w : World} {b : Nat} {K X Y : Nat} {I : Bool} (h : TmB w b K X Y I) (hb : Below w.heap.size w w') : TmB w' b K X Y I := (hb.block b h.lt).trans h
theorem TmB.cells {w : World} {b : Nat} {K X Y : Nat} {I : Bool} (h : TmB w b K X Y I) : w.cell? ⟨b, 0, none⟩ = some (.int .u64 (limb 0 K)) ∧ w.cell? ⟨b, 1, none⟩ = some (.int .u64 (limb 1 K)) ∧ w.cell? ⟨b, 2, none⟩ = some (.int .u64 (limb 2 K)) ∧ w.cell? ⟨b, 3, none⟩ = some (.int .u64 (limb 3 K)) ∧ w.cell? ⟨b, 4, none⟩ = some (.int .u64 (limb 0 X)) ∧ w.cell? ⟨b, 5, none⟩ = some (.int .u64 (limb 1 X)) ∧ w.cell? ⟨b, 6, none⟩ = some (.int .u64 (limb 2 X)) ∧ w.cell? ⟨b, 7, none⟩ = some (.int .u64 (limb 3 X)) ∧ w.cell? ⟨b, 8, none⟩ = some (.int .u64 (limb 0 Y)) ∧ w.cell? ⟨b, 9, none⟩ = some (.int .u64 (limb 1 Y)) ∧ w.cell? ⟨b, 10, none⟩ = some (.int .u64 (limb 2 Y)) ∧ w.cell? ⟨b, 11, none⟩ = some (.int .u64 (limb 3 Y)) ∧ w.cell? ⟨b, 12, none⟩ = some (.bool I) := by
 unfold TmB at h
 refine ⟨?_, ?_, ?_, ?_, ?_, ?_, ?_, ?_, ?_, ?_, ?_, ?_, ?_⟩
 all_goals simp [World.cell?, h]
def Tm0 (w : World) (b : Nat) : Prop := w.heap[b]? = some (.cells #[.int .u64 0, .int .u64 0, .int .u64 0, .int .u64 0, .int .u64 0, .int .u64 0, .int .u64 0, .int .u64 0, .int .u64 0, .int .u64 0, .int .u64 0, .int .u64 0, .bool false] 43)
theorem Tm0.lt {w : World} {b : Nat} (h : Tm0 w b) : b < w.heap.size := (Array.getElem?_eq_some_iff.1 h).1
theorem Tm0.belowAll {w w' : World} {b : Nat} (h : Tm0 w b) (hb : Below w.heap.size w w') : Tm0 w' b := (hb.block b h.lt).trans h
theorem Tm0.cells {w : World} {b : Nat} (h : Tm0 w b) : w.cell? ⟨b, 0, none⟩ = some (.int .u64 0) ∧ w.cell? ⟨b, 1, none⟩ = some (.int .u64 0) ∧ w.cell? ⟨b, 2, none⟩ = some (.int .u64 0) ∧ w.cell? ⟨b, 3, none⟩ = some (.int .u64 0) ∧ w.cell? ⟨b, 4, none⟩ = some (.int .u64 0) ∧ w.cell? ⟨b, 5, none⟩ = some (.int .u64 0) ∧ w.cell? ⟨b, 6, none⟩ = some (.int .u64 0) ∧ w.cell? ⟨b, 7, none⟩ = some (.int .u64 0) ∧ w.cell? ⟨b, 8, none⟩ = some (.int .u64 0) ∧ w.cell? ⟨b, 9, none⟩ = some (.int .u64 0) ∧ w.cell? ⟨b, 10, none⟩ = some (.int .u64 0) ∧ w.cell? ⟨b, 11, none⟩ = some (.int .u64 0) ∧ w.cell? ⟨b, 12, none⟩ = some (.bool false) ∧ ∀ o, w.frozen? ⟨b, o, none⟩ = false := by
 unfold Tm0 at h
 refine ⟨?_, ?_, ?_, ?_, ?_, ?_, ?_, ?_, ?_, ?_, ?_, ?_, ?_, ?_⟩
 all_goals first | (intro o; simp [World.frozen?, h]; done) | simp [World.cell?, h]
theorem Tm0.set (K X Y : Nat) (I : Bool) {w : World} {b : Nat} (h : Tm0 w b) : TmB (((((((((((((w.setCell ⟨b, 0, none⟩ (.int .u64 (limb 0 K))).setCell ⟨b, 1, none⟩ (.int .u64 (limb 1 K))).setCell ⟨b, 2, none⟩ (.int .u64 (limb 2 K))).setCell ⟨b, 3, none⟩ (.int .u64 (limb 3 K))).setCell ⟨b, 4, none⟩ (.int .u64 (limb 0 X))).setCell ⟨b, 5, none⟩ (.int .u64 (limb 1 X))).setCell ⟨b, 6, none⟩ (.int .u64 (limb 2 X))).setCell ⟨b, 7, none⟩ (.int .u64 (limb 3 X))).setCell ⟨b, 8, none⟩ (.int .u64 (limb 0 Y))).setCell ⟨b, 9, none⟩ (.int .u64 (limb 1 Y))).setCell ⟨b, 10, none⟩ (.int .u64 (limb 2 Y))).setCell ⟨b, 11, none⟩ (.int .u64 (limb 3 Y))).setCell ⟨b, 12, none⟩ (.bool I)) b K X Y I := by
 unfold TmB
 unfold Tm0 at h
 have h := set_at h 0 (.int .u64 (limb 0 K))
 have h := set_at h 1 (.int .u64 (limb 1 K))
 have h := set_at h 2 (.int .u64 (limb 2 K))
 have h := set_at h 3 (.int .u64 (limb 3 K))
 have h := set_at h 4 (.int .u64 (limb 0 X))
 have h := set_at h 5 (.int .u64 (limb 1 X))
 have h := set_at h 6 (.int .u64 (limb 2 X))
 have h := set_at h 7 (.int .u64 (limb 3 X))
 have h := set_at h 8 (.int .u64 (limb 0 Y))
 have h := set_at h 9 (.int .u64 (limb 1 Y))
 have h := set_at h 10 (.int .u64 (limb 2 Y))
 have h := set_at h 11 (.int .u64 (limb 3 Y))
 have h := set_at h 12 (.bool I)
 rw [h]
 simp
theorem bSet13 (K X Y : Nat) (I : Bool) {w0 w : World} {b m : Nat} (h : Below m w0 w) (hm : m ≤ b) : Below m w0 (((((((((((((w.setCell ⟨b, 0, none⟩ (.int .u64 (limb 0 K))).setCell ⟨b, 1, none⟩ (.int .u64 (limb 1 K))).setCell ⟨b, 2, none⟩ (.int .u64 (limb 2 K))).setCell ⟨b, 3, none⟩ (.int .u64 (limb 3 K))).setCell ⟨b, 4, none⟩ (.int .u64 (limb 0 X))).setCell ⟨b, 5, none⟩ (.int .u64 (limb 1 X))).setCell ⟨b, 6, none⟩ (.int .u64 (limb 2 X))).setCell ⟨b, 7, none⟩ (.int .u64 (limb 3 X))).setCell ⟨b, 8, none⟩ (.int .u64 (limb 0 Y))).setCell ⟨b, 9, none⟩ (.int .u64 (limb 1 Y))).setCell ⟨b, 10, none⟩ (.int .u64 (limb 2 Y))).setCell ⟨b, 11, none⟩ (.int .u64 (limb 3 Y))).setCell ⟨b, 12, none⟩ (.bool I)) := by
 have h := h.setCell (p := ⟨b, 0, none⟩) hm (.int .u64 (limb 0 K))
 have h := h.setCell (p := ⟨b, 1, none⟩) hm (.int .u64 (limb 1 K))
 have h := h.setCell (p := ⟨b, 2, none⟩) hm (.int .u64 (limb 2 K))
 have h := h.setCell (p := ⟨b, 3, none⟩) hm (.int .u64 (limb 3 K))
 have h := h.setCell (p := ⟨b, 4, none⟩) hm (.int .u64 (limb 0 X))
 have h := h.setCell (p := ⟨b, 5, none⟩) hm (.int .u64 (limb 1 X))
 have h := h.setCell (p := ⟨b, 6, none⟩) hm (.int .u64 (limb 2 X))
 have h := h.setCell (p := ⟨b, 7, none⟩) hm (.int .u64 (limb 3 X))
 have h := h.setCell (p := ⟨b, 8, none⟩) hm (.int .u64 (limb 0 Y))
 have h := h.setCell (p := ⟨b, 9, none⟩) hm (.int .u64 (limb 1 Y))
 have h := h.setCell (p := ⟨b, 10, none⟩) hm (.int .u64 (limb 2 Y))
 have h := h.setCell (p := ⟨b, 11, none⟩) hm (.int .u64 (limb 3 Y))
 have h := h.setCell (p := ⟨b, 12, none⟩) hm (.bool I)
 exact h
theorem Four.cells0 {w : World} {b : Nat} (h : Blk w 28 b (fun _ => 0)) : w.cell? ⟨b, 0, none⟩ = some (.int .u64 0) ∧ w.cell? ⟨b, 1, none⟩ = some (.int .u64 0) ∧ w.cell? ⟨b, 2, none⟩ = some (.int .u64 0) ∧ w.cell? ⟨b, 3, none⟩ = some (.int .u64 0) := by
 unfold Blk at h
 refine ⟨?_, ?_, ?_, ?_⟩
 all_goals simp [World.cell?, h]
theorem OpB.but {w w' : World} {b B c base n : Nat} {W : Int} {K X Y : Nat} {I : Bool} {v u : Value} {xs : List Value} (h : OpB w b W K X Y I) (hL : Lz w B c u) (ho : w.ownsRow base 43 13 v n xs) (hb : But w w' B v.ownBlock) : OpB w' b W K X Y I := by
 refine (hb.keep h.lt (fun e => ?_) (fun e => ?_)).trans h
 ·subst e
  unfold Lz at hL
  unfold OpB at h
  rw [hL] at h
  cases h
 ·rcases ho.2 with ⟨rfl, _⟩ | ⟨g, cap, cur, rfl, _, hg, _⟩
  ·cases e
  ·cases e
   unfold OpB at h
   rw [h] at hg
   cases hg
theorem wpList_append_sep {P : Program} (w : World) {ops : Array Oper} {rest : List Oper} {o : Oper} {a : Act} {Q : Exit → Act → World → Prop} (hgd : o.guard = none) (s x : Operand) (t : TypeId)
  (ho : o.op = .call { callee := .builtin .append, args := #[s, x], argTypes := #[t, t] })
  (base : Nat) (e : TypeId) (i : TypeInfo) (z : Value) (size bytes : Nat) (ht : P.underlying t = some (.slice e)) (hi : P.info? e = some i) (hz : i.zero = some z)
  (hsize : i.size = size) (hby : i.bytes = bytes) (hzs : z.cells.size = size) (hsz : 0 < size)
  (v : Value) (n : Nat) (xs : List Value) (hs : a.eval s = v) (hown : w.ownsRow base e size v n xs)
  (ad : Addr) (m c : Nat) (news : List Value) (hx : a.eval x = .slice (some ad) m c) (hl : news.length = m * size) (hnews : ∀ j u, news[j]? = some u → w.cell? (ad.add j) = some u) (h1 : ∀ u ∈ news, u.oneCell' = true)
  (h63 : n + m ≤ maxLen) (hbytes : (n + m) * bytes ≤ 140737488355328) (hbase : base ≤ w.heap.size)
  (h : ∀ v' w', w'.ownsRow base e size v' (n + m) (xs ++ news) → w.grownBy w' v.ownBlock → (v'.ownBlock = v.ownBlock ∨ v'.ownBlock = some w.heap.size) → wpList P ops Q rest (a.put o.dst v') w') : wpList P ops Q (o :: rest) a w :=
 wpList_plain hgd fun _ hK => wp_append_sep w s x t ho base e i z size bytes ht hi hz hsize hby hzs hsz v n xs hs hown ad m c news hx hl hnews h1 h63 hbytes hbase fun v' w' h2 h3 h4 => hK _ _ (h v' w' h2 h3 h4)
def q4 {α : Type} (z a b c d : α) (j : Nat) : α := if j = 0 then a else if j = 1 then b else if j = 2 then c else if j = 3 then d else z
section
variable {α : Type} (z a b c d t : α)
theorem q4_upd0 : upd (q4 z a b c d) 0 t = q4 z t b c d := by
 funext j
 unfold upd q4
 by_cases h : j = 0
 ·subst h; rfl
 ·simp only [if_neg h]
theorem q4_upd1 : upd (q4 z a b c d) 1 t = q4 z a t c d := by
 funext j
 unfold upd q4
 by_cases h : j = 1
 ·subst h; rfl
 ·simp only [if_neg h]
theorem q4_upd2 : upd (q4 z a b c d) 2 t = q4 z a b t d := by
 funext j
 unfold upd q4
 by_cases h : j = 2
 ·subst h; rfl
 ·simp only [if_neg h]
theorem q4_upd3 : upd (q4 z a b c d) 3 t = q4 z a b c t := by
 funext j
 unfold upd q4
 by_cases h : j = 3
 ·subst h; rfl
 ·simp only [if_neg h]
end
def S4 (w0 w : World) (B1 B2 Z c : Nat) (v u x y : Value) (a b d e : Nat) (A B D E : Nat → Nat × Nat × Nat × Bool) : Prop :=
 St w0 w B1 B2 Z c (q4 (.slice none 0 0) v u x y) (q4 0 a b d e) (q4 (fun _ => (0, 0, 0, false)) A B D E)
section
variable {w0 w w' : World} {B1 B2 Z c : Nat} {v u x y : Value} {a b d e : Nat} {A B D E : Nat → Nat × Nat × Nat × Bool}
theorem S4.belowAll (h : S4 w0 w B1 B2 Z c v u x y a b d e A B D E) (hb : Below w.heap.size w w') : S4 w0 w' B1 B2 Z c v u x y a b d e A B D E := St.belowAll h hb
theorem S4.parts (h : S4 w0 w B1 B2 Z c v u x y a b d e A B D E) : Below w0.heap.size w0 w ∧ w0.heap.size ≤ w.heap.size ∧ Lz w B1 c v ∧ Lz w B2 c u ∧ Blk w 28 Z (fun _ => 0) ∧
  w.ownsRow w0.heap.size 43 13 v a (trs A a) ∧ w.ownsRow w0.heap.size 43 13 u b (trs B b) ∧ w.ownsRow w0.heap.size 43 13 x d (trs D d) ∧ w.ownsRow w0.heap.size 43 13 y e (trs E e) :=
 ⟨h.1, h.1.size, h.2.2.1, h.2.2.2.1, h.2.2.2.2.2, h.2.2.2.2.1.1 0 (by decide), h.2.2.2.2.1.1 1 (by decide), h.2.2.2.2.1.1 2 (by decide), h.2.2.2.2.1.1 3 (by decide)⟩
theorem S4.put0 {v' : Value} {n : Nat} {G : Nat → Nat × Nat × Nat × Bool} (h : S4 w0 w B1 B2 Z c v u x y a b d e A B D E) (hL : Lz w' B1 c v') (ho : w'.ownsRow w0.heap.size 43 13 v' n (trs G n)) (hs : v'.ownBlock = v.ownBlock ∨ ∃ g, v'.ownBlock = some g ∧ w.heap.size ≤ g) (hb : But w w' B1 v.ownBlock) :
  S4 w0 w' B1 B2 Z c v' u x y n b d e G B D E := by
 have h' := St.put0 h hL ho hs hb
 rw [q4_upd0, q4_upd0, q4_upd0] at h'
 exact h'
theorem S4.put1 {v' : Value} {n : Nat} {G : Nat → Nat × Nat × Nat × Bool} (h : S4 w0 w B1 B2 Z c v u x y a b d e A B D E) (hL : Lz w' B2 c v') (ho : w'.ownsRow w0.heap.size 43 13 v' n (trs G n)) (hs : v'.ownBlock = u.ownBlock ∨ ∃ g, v'.ownBlock = some g ∧ w.heap.size ≤ g) (hb : But w w' B2 u.ownBlock) :
  S4 w0 w' B1 B2 Z c v v' x y a n d e A G D E := by
 have h' := St.put1 h hL ho hs hb
 rw [q4_upd1, q4_upd1, q4_upd1] at h'
 exact h'
theorem S4.put2 {v' : Value} {n : Nat} {G : Nat → Nat × Nat × Nat × Bool} (h : S4 w0 w B1 B2 Z c v u x y a b d e A B D E) (ho : w'.ownsRow w0.heap.size 43 13 v' n (trs G n)) (hs : ∀ g, v'.ownBlock = some g → x.ownBlock = some g ∨ w.heap.size ≤ g) (hb : w.grownBy w' x.ownBlock) :
  S4 w0 w' B1 B2 Z c v u v' y a b n e A B G E := by
 have h' := St.putOwn 2 h (by decide) (by decide) ho hs hb
 rw [q4_upd2, q4_upd2, q4_upd2] at h'
 exact h'
theorem S4.put3 {v' : Value} {n : Nat} {G : Nat → Nat × Nat × Nat × Bool} (h : S4 w0 w B1 B2 Z c v u x y a b d e A B D E) (ho : w'.ownsRow w0.heap.size 43 13 v' n (trs G n)) (hs : ∀ g, v'.ownBlock = some g → y.ownBlock = some g ∨ w.heap.size ≤ g) (hb : w.grownBy w' y.ownBlock) :
  S4 w0 w' B1 B2 Z c v u x v' a b d n A B D G := by
 have h' := St.putOwn 3 h (by decide) (by decide) ho hs hb
 rw [q4_upd3, q4_upd3, q4_upd3] at h'
 exact h'
theorem S4.new {gx gy : Nat} (hb : Below w0.heap.size w0 w) (h1 : w0.heap.size ≤ B1) (h2 : w0.heap.size ≤ B2) (hZ : w0.heap.size ≤ Z) (h12 : B1 ≠ B2) (hL : Lz w B1 c (.slice none 0 0)) (hM : Lz w B2 c (.slice none 0 0)) (hz : Blk w 28 Z (fun _ => 0))
  (hx : w.ownsRow w0.heap.size 43 13 (.slice (some ⟨gx, 0, none⟩) 0 0) 0 []) (hy : w.ownsRow w0.heap.size 43 13 (.slice (some ⟨gy, 0, none⟩) 0 0) 0 []) (hne : gx ≠ gy) :
  S4 w0 w B1 B2 Z c (.slice none 0 0) (.slice none 0 0) (.slice (some ⟨gx, 0, none⟩) 0 0) (.slice (some ⟨gy, 0, none⟩) 0 0) 0 0 0 0 (fun _ => (0, 0, 0, false)) (fun _ => (0, 0, 0, false)) (fun _ => (0, 0, 0, false)) (fun _ => (0, 0, 0, false)) := by
 refine ⟨hb, ⟨h1, h2, hZ, h12⟩, hL, hM, ⟨fun i hi => ?_, fun i j hi hj hij g hg => ?_⟩, hz⟩
 ·have : i = 0 ∨ i = 1 ∨ i = 2 ∨ i = 3 := by omega
  rcases this with rfl | rfl | rfl | rfl
  ·exact ⟨rfl, Or.inl ⟨rfl, rfl⟩⟩
  ·exact ⟨rfl, Or.inl ⟨rfl, rfl⟩⟩
  ·exact hx
  ·exact hy
 ·have h1 : i = 0 ∨ i = 1 ∨ i = 2 ∨ i = 3 := by omega
  have h2 : j = 0 ∨ j = 1 ∨ j = 2 ∨ j = 3 := by omega
  rcases h1 with rfl | rfl | rfl | rfl <;> rcases h2 with rfl | rfl | rfl | rfl <;> first | exact absurd rfl hij | (cases hg; done) | (intro h; cases h; done) | (cases hg; intro h; cases h; exact hne rfl)
end
end Go.Proofs.YtokoknacolmhgaaGreatDoor
namespace Go.Proofs.YtokoknacolmhgaaGreatDoor
open Go.RowKit
theorem trs_app2 (T V : Nat → Nat × Nat × Nat × Bool) (n m : Nat) : trs T n ++ trs V m = trs (app2 T n V) (n + m) := trs_add T V n m
theorem wpList_appT (w : World) {ops : Array Oper} {rest : List Oper} {o : Oper} {a : Act} {Q : Exit → Act → World → Prop} (hgd : o.guard = none) (s x : Operand)
  (ho : o.op = .call { callee := .builtin .append, args := #[s, x], argTypes := #[22, 22] })
  (base n m : Nat) (v u : Value) (T V : Nat → Nat × Nat × Nat × Bool) (hs : a.eval s = v) (hown : w.ownsRow base 43 13 v n (trs T n)) (hx : a.eval x = u) (hu : Rs w u 13 m (fun i => tC (V i))) (hn : n + m ≤ 1000000) (hbase : base ≤ w.heap.size)
  (h : ∀ v' w', w'.ownsRow base 43 13 v' (n + m) (trs (app2 T n V) (n + m)) → w.grownBy w' v.ownBlock → (∀ b, v'.ownBlock = some b → v.ownBlock = some b ∨ w.heap.size ≤ b) → wpList Tryz.prog ops Q rest (a.put o.dst v') w') : wpList Tryz.prog ops Q (o :: rest) a w := by
 obtain ⟨i0, hi, hz0, hz1, hz2⟩ := termInfo
 rcases hu with ⟨rfl, rfl⟩ | ⟨b, ob, c, rfl, hnc, hcm, hlt, hcell⟩
 ·refine wpList_append_own_none hgd s x 22 ho base 43 i0 13 Tryz.underlying22 hi v n (trs T n) hs hown hx ?_
  exact h v w (by show w.ownsRow base 43 13 v n (trs (app2 T n V) n); rw [trs_app0]; exact hown) (grown_of_below (Below.refl _ _) _) (fun b hb => Or.inl hb)
 ·refine wpList_append_sep w hgd s x 22 ho base 43 i0 _ 13 104 Tryz.underlying22 hi hz0 hz1 hz2 rfl (by decide) v n (trs T n) hs hown ⟨b, ob, none⟩ m c (trs V m) hx (trs_len V m) ?_ (trs_one V m) (by unfold maxLen; omega) (by omega) hbase ?_
  ·intro j u hj
   exact trs_cells V m b ob w w (Below.refl _ _) hlt hcell j u hj
  ·intro v' w' h1 h2 h3
   refine h v' w' ?_ h2 (fun g hg => ?_)
   ·rw [trs_app2] at h1
    exact h1
   ·rcases h3 with h3 | h3
    ·exact Or.inl (h3 ▸ hg)
    ·rw [h3] at hg
     cases hg
     exact Or.inr (Nat.le_refl _)
theorem one_Rs (w : World) (K X Y : Nat) (I : Bool) : Rs (w.alloc (.cells #[.int .u64 (limb 0 K), .int .u64 (limb 1 K), .int .u64 (limb 2 K), .int .u64 (limb 3 K), .int .u64 (limb 0 X), .int .u64 (limb 1 X), .int .u64 (limb 2 X), .int .u64 (limb 3 X), .int .u64 (limb 0 Y), .int .u64 (limb 1 Y), .int .u64 (limb 2 Y), .int .u64 (limb 3 Y), .bool I] 43)) (.slice (some ⟨w.heap.size, 0, none⟩) 1 1) 13 1 (fun _ => tC (K, X, Y, I)) := by
 refine (BlkR.one w 43 w.heap.size 13 _ (fun j => tC (K, X, Y, I) j) rfl rfl (fun j hj => ?_)).Rs (by unfold maxLen; decide)
 have hj' : j = 0 ∨ j = 1 ∨ j = 2 ∨ j = 3 ∨ j = 4 ∨ j = 5 ∨ j = 6 ∨ j = 7 ∨ j = 8 ∨ j = 9 ∨ j = 10 ∨ j = 11 ∨ j = 12 := by omega
 rcases hj' with rfl | rfl | rfl | rfl | rfl | rfl | rfl | rfl | rfl | rfl | rfl | rfl | rfl <;> rfl
theorem put_ok {c a : Nat} {A : Nat → Nat × Nat × Nat × Bool} {t : Nat × Nat × Nat × Bool} (h : ∀ i, i < a → ((A i).1 < 115792089237316195423570985008687907853269984665640564039457584007913129639936 ∧ (A i).2.1 < 115792089237316195423570985008687907853269984665640564039457584007913129639936 ∧ (A i).2.2.1 < 115792089237316195423570985008687907853269984665640564039457584007913129639936) ∧ onT c (A i).2) (ht : (t.1 < 115792089237316195423570985008687907853269984665640564039457584007913129639936 ∧ t.2.1 < 115792089237316195423570985008687907853269984665640564039457584007913129639936 ∧ t.2.2.1 < 115792089237316195423570985008687907853269984665640564039457584007913129639936) ∧ onT c t.2) : ∀ i, i < a + 1 → ((put A a t i).1 < 115792089237316195423570985008687907853269984665640564039457584007913129639936 ∧ (put A a t i).2.1 < 115792089237316195423570985008687907853269984665640564039457584007913129639936 ∧ (put A a t i).2.2.1 < 115792089237316195423570985008687907853269984665640564039457584007913129639936) ∧ onT c (put A a t i).2 := fun i hi => by
 unfold put
 by_cases e : i < a
 ·rw [if_pos e]; exact h i e
 ·rw [if_neg e]; exact ht
theorem app2_ok {c a b : Nat} {A B : Nat → Nat × Nat × Nat × Bool} (h : ∀ i, i < a → ((A i).1 < 115792089237316195423570985008687907853269984665640564039457584007913129639936 ∧ (A i).2.1 < 115792089237316195423570985008687907853269984665640564039457584007913129639936 ∧ (A i).2.2.1 < 115792089237316195423570985008687907853269984665640564039457584007913129639936) ∧ onT c (A i).2) (ht : ∀ i, i < b → ((B i).1 < 115792089237316195423570985008687907853269984665640564039457584007913129639936 ∧ (B i).2.1 < 115792089237316195423570985008687907853269984665640564039457584007913129639936 ∧ (B i).2.2.1 < 115792089237316195423570985008687907853269984665640564039457584007913129639936) ∧ onT c (B i).2) : ∀ i, i < a + b → ((app2 A a B i).1 < 115792089237316195423570985008687907853269984665640564039457584007913129639936 ∧ (app2 A a B i).2.1 < 115792089237316195423570985008687907853269984665640564039457584007913129639936 ∧ (app2 A a B i).2.2.1 < 115792089237316195423570985008687907853269984665640564039457584007913129639936) ∧ onT c (app2 A a B i).2 := fun i hi => by
 unfold app2
 by_cases e : i < a
 ·rw [if_pos e]; exact h i e
 ·rw [if_neg e]; exact ht (i - a) (by omega)
end Go.Proofs.YtokoknacolmhgaaGreatDoor
namespace Go.Proofs.YtokoknacolmhgaaGreatDoor
open Go.RowKit
theorem Rs.take14 {w : World} {n0 n cn : Nat} {oa : Option Addr} {F : Nat → Nat → Value} (h : Rs w (.slice oa n0 cn) 14 n0 F) (hn : n ≤ n0) : Rs w (.slice oa n cn) 14 n F := by
 rcases h with ⟨h1, h2⟩ | ⟨b, o, c, h1, h2, h3, h4, h5⟩
 ·cases h1
  exact Or.inl ⟨by rw [show n = 0 by omega], by omega⟩
 ·cases h1
  exact Or.inr ⟨b, o, cn, rfl, Nat.le_trans hn h2, h3, h4, fun i hi => h5 i (by omega)⟩
theorem Rs.long {w : World} {n cn : Nat} {oa : Option Addr} {F : Nat → Nat → Value} (h : Rs w (.slice oa n cn) 14 n F) : n ≤ 30 ∨ 30 < n ∧ n ≤ cn ∧ ∃ b o, oa = some ⟨b, o, none⟩ := by
 rcases h with ⟨h1, h2⟩ | ⟨b, o, c, h1, h2, h3, h4, h5⟩
 ·exact Or.inl (by omega)
 ·cases h1
  rcases Nat.lt_or_ge 30 n with hl | hl
  ·exact Or.inr ⟨hl, h2, b, o, rfl⟩
  ·exact Or.inl hl
set_option maxRecDepth 20000 in
theorem steps_out2 (c : Int) (n cn : Nat) (oa : Option Addr) (hc : c < 0 ∨ 4 ≤ c) (hn : n ≤ 30 ∨ 30 < n ∧ n ≤ cn ∧ ∃ b o, oa = some ⟨b, o, none⟩) (w : World) (hg : GlobC w) :
  Calls Tryz.prog 4 #[.int .i64 c, .slice oa n cn] w fun e w' => e = .returned (.bool true) ∧ Below w.heap.size w w' := by
 have HG0 : Hid (GlobC w) := hg
 have HN : Hid (∀ w, GlobC w → _) := fun w hg => new_out c hc w hg
 have H30 : Hid (n ≤ 30 ∨ 30 < n ∧ n ≤ cn ∧ ∃ b o, oa = some ⟨b, o, none⟩) := hn
 have EQN : ∀ w, (binOp .eql 36 (.pointer none) (.pointer none)).run Tryz.prog w = .ok (.bool true) w := fun w => by kernel_rfl
 clear hg hn
 by_cases h1 : c < 0
 ·clear hc
  go_enter Tryz.func4, Tryz.ntmps4
  go_wp2_with fail
  refine (alive5_any _ HG0.out).mono ?_
  rintro e w1 ⟨rfl, hb1⟩
  have HG1 : Hid (GlobC w1) := HG0.out.below hb1
  go_upto_if 21 with fail
  go_cut [1] (fun _ wx => wx = w1)
  case first =>
   rcases H30.out with h | ⟨h, h2, b, o, rfl⟩
   ·have h30 : ¬ (30 : Int) < (n : Int) := by omega
    go_wp2_with fail
    go_meet
    rfl
   ·have h30 : (30 : Int) < (n : Int) := by omega
    have hcn : (30 : Int) ≤ (cn : Int) := by omega
    go_wp2_with fail
    go_meet
    rfl
  case rest =>
  subst hcut
  go_wp2_with fail
  refine (HN.out _ HG1.out).mono ?_
  rintro e w2 ⟨rfl, hb2⟩
  have hbw2 := bStep hb1 hb2
  have HG2 : Hid (GlobC w2) := HG0.out.below hbw2
  go_wp2_with fail
  refine (HN.out _ HG2.out).mono ?_
  rintro e w3 ⟨rfl, hb3⟩
  have hbw3 := bStep hbw2 hb3
  clear HG1 HG2 hb1 hb2 hb3 hbw2
  go_wp2
  go_ret
  exact ⟨rfl, hbw3⟩
 ·have h3 : 3 < c := by omega
  clear hc
  go_enter Tryz.func4, Tryz.ntmps4
  go_wp2_with fail
  refine (alive5_any _ HG0.out).mono ?_
  rintro e w1 ⟨rfl, hb1⟩
  have HG1 : Hid (GlobC w1) := HG0.out.below hb1
  go_upto_if 21 with fail
  go_cut [1] (fun _ wx => wx = w1)
  case first =>
   rcases H30.out with h | ⟨h, h2, b, o, rfl⟩
   ·have h30 : ¬ (30 : Int) < (n : Int) := by omega
    go_wp2_with fail
    go_meet
    rfl
   ·have h30 : (30 : Int) < (n : Int) := by omega
    have hcn : (30 : Int) ≤ (cn : Int) := by omega
    go_wp2_with fail
    go_meet
    rfl
  case rest =>
  subst hcut
  go_wp2_with fail
  refine (HN.out _ HG1.out).mono ?_
  rintro e w2 ⟨rfl, hb2⟩
  have hbw2 := bStep hb1 hb2
  have HG2 : Hid (GlobC w2) := HG0.out.below hbw2
  go_wp2_with fail
  refine (HN.out _ HG2.out).mono ?_
  rintro e w3 ⟨rfl, hb3⟩
  have hbw3 := bStep hbw2 hb3
  clear HG1 HG2 hb1 hb2 hb3 hbw2
  go_wp2
  go_ret
  exact ⟨rfl, hbw3⟩
end Go.Proofs.YtokoknacolmhgaaGreatDoor
