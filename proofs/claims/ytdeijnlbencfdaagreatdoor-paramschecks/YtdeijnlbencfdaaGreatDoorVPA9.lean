/- ParamsChecks. -/
import Derived.Test.YtdeijnlbencfdaaGreatDoorVPY
namespace Go.Proofs.YtdeijnlbencfdaaGreatDoor
open Go.RowKit
theorem yLoad {ops : Array Oper} {S : World → Prop} {op : Oper} {a : Act} (hw : Region.wanted op (yielded ops a.tmps) = true) (x : Operand) (ho : op.op = .load 29 x) (b : Nat) (hx : a.eval x = .pointer (some ⟨b, 0, none⟩)) (cs : Array Value) (hS : ∀ w, S w → w.heap[b]? = some (.cells cs 29)) (hi : (Tryz.prog.info? 29).map (·.size) = some cs.size) : YieldsIf Tryz.prog ops S op (.agg cs) a :=
 .inl ⟨hw, fun w hw' => by
  unfold execOp
  simp only [ho, hx, Instr.loadAt, Instr.sureAddr, Sem.run_bind, Sem.run_pure, Result.andThen_ok, run_loadVar_row w b 29 29 cs (0, 0) _ (hS w hw') parUnd rfl hi]⟩
set_option maxHeartbeats 16000000 in
set_option maxRecDepth 20000 in
theorem pchecks_in (ER C K : Int) (n cn : Nat) (oa : Option Addr) (G : Nat → Nat × Nat × Bool) (A B : Nat × Nat × Bool) (hn : n ≤ 100) (hM : ∀ i, i < n → (G i).1 < 115792089237316195423570985008687907853269984665640564039457584007913129639936 ∧ (G i).2.1 < 115792089237316195423570985008687907853269984665640564039457584007913129639936) (hA : A.1 < 115792089237316195423570985008687907853269984665640564039457584007913129639936 ∧ A.2.1 < 115792089237316195423570985008687907853269984665640564039457584007913129639936) (hB : B.1 < 115792089237316195423570985008687907853269984665640564039457584007913129639936 ∧ B.2.1 < 115792089237316195423570985008687907853269984665640564039457584007913129639936) (w : World) (hg : GlobC w) (hR : Rs w (.slice oa n cn) 9 n (fun i => pC (G i)))
  (hck : ∀ (w' : World) (o : Option Addr) (k : Nat), GlobC w' → Rs w' (.slice o n k) 9 n (fun i => pC (G i)) → Calls Tryz.prog 8 #[parV C K (.slice o n k) A B] w' fun e w'' => e = .returned (.int .i64 ER) ∧ Below w'.heap.size w' w'')
  (hrc : ∀ (w' : World) (o : Option Addr) (k : Nat), Rs w' (.slice o n k) 9 n (fun i => pC (G i)) → Calls Tryz.prog 9 #[parV C K (.slice o n k) A B] w' fun e w'' => e = .returned (.int .i64 ER) ∧ Below w'.heap.size w' w'') :
  Calls Tryz.prog 3 #[parV C K (.slice oa n cn) A B] w fun e w' => e = .returned (.bool true) ∧ Below w.heap.size w w' := by
 have HG : Hid (GlobC w) := hg
 have HR : Hid (Rs w (.slice oa n cn) 9 n (fun i => pC (G i))) := hR
 obtain ⟨cs1, ecs1⟩ : ∃ cs : Array Value, cs = #[.int .i64 C, .int .i64 K, .slice oa n cn, .int .u64 ((limb 0 A.1 : Nat) : Int), .int .u64 ((limb 1 A.1 : Nat) : Int), .int .u64 ((limb 2 A.1 : Nat) : Int), .int .u64 ((limb 3 A.1 : Nat) : Int), .int .u64 ((limb 0 A.2.1 : Nat) : Int), .int .u64 ((limb 1 A.2.1 : Nat) : Int), .int .u64 ((limb 2 A.2.1 : Nat) : Int), .int .u64 ((limb 3 A.2.1 : Nat) : Int), .bool A.2.2, .int .u64 ((limb 0 B.1 : Nat) : Int), .int .u64 ((limb 1 B.1 : Nat) : Int), .int .u64 ((limb 2 B.1 : Nat) : Int), .int .u64 ((limb 3 B.1 : Nat) : Int), .int .u64 ((limb 0 B.2.1 : Nat) : Int), .int .u64 ((limb 1 B.2.1 : Nat) : Int), .int .u64 ((limb 2 B.2.1 : Nat) : Int), .int .u64 ((limb 3 B.2.1 : Nat) : Int), .bool B.2.2] := ⟨_, rfl⟩
 have HCP : Hid (∀ w', Below w.heap.size w w' → Calls Tryz.prog 7 #[.agg cs1] w' fun e w'' => (∃ (cs : Array Value) (o : Option Addr) (k : Nat), e = .returned (.agg cs) ∧ Hid (parV C K (.slice o n k) A B = .agg cs) ∧ Rs w'' (.slice o n k) 9 n (fun i => pC (G i))) ∧ Below w'.heap.size w' w'') := fun w' hb => by
  rw [ecs1]
  refine (copyPar_any C K n cn oa G A B (by omega) w' (hR.below hb)).mono ?_
  rintro e w'' ⟨⟨o, k, rfl, h1⟩, h2⟩
  exact ⟨⟨_, o, k, rfl, rfl, h1⟩, h2⟩
 have HC0 : Hid ((∀ (w' : World) (o : Option Addr) (k : Nat), GlobC w' → Rs w' (.slice o n k) 9 n (fun i => pC (G i)) → Calls Tryz.prog 8 #[parV C K (.slice o n k) A B] w' fun e w'' => e = .returned (.int .i64 ER) ∧ Below w'.heap.size w' w'') ∧ (∀ (w' : World) (o : Option Addr) (k : Nat), Rs w' (.slice o n k) 9 n (fun i => pC (G i)) → Calls Tryz.prog 9 #[parV C K (.slice o n k) A B] w' fun e w'' => e = .returned (.int .i64 ER) ∧ Below w'.heap.size w' w'')) := ⟨hck, hrc⟩
 have HMM : Hid (n ≤ 100 ∧ (∀ i, i < n → (G i).1 < 115792089237316195423570985008687907853269984665640564039457584007913129639936 ∧ (G i).2.1 < 115792089237316195423570985008687907853269984665640564039457584007913129639936) ∧ (A.1 < 115792089237316195423570985008687907853269984665640564039457584007913129639936 ∧ A.2.1 < 115792089237316195423570985008687907853269984665640564039457584007913129639936) ∧ (B.1 < 115792089237316195423570985008687907853269984665640564039457584007913129639936 ∧ B.2.1 < 115792089237316195423570985008687907853269984665640564039457584007913129639936)) := ⟨hn, hM, hA, hB⟩
 have HSZ1 : Hid ((Tryz.prog.info? 29).map (·.size) = some cs1.size) := by rw [ecs1]; exact parSize
 have hn100 : ¬ (100 : Int) < (n : Int) := by omega
 unfold parV
 obtain ⟨w0, hw0⟩ : ∃ z : World, z = w.alloc (.cells #[.int .i64 C, .int .i64 K, .slice oa n cn, .int .u64 ((limb 0 A.1 : Nat) : Int), .int .u64 ((limb 1 A.1 : Nat) : Int), .int .u64 ((limb 2 A.1 : Nat) : Int), .int .u64 ((limb 3 A.1 : Nat) : Int), .int .u64 ((limb 0 A.2.1 : Nat) : Int), .int .u64 ((limb 1 A.2.1 : Nat) : Int), .int .u64 ((limb 2 A.2.1 : Nat) : Int), .int .u64 ((limb 3 A.2.1 : Nat) : Int), .bool A.2.2, .int .u64 ((limb 0 B.1 : Nat) : Int), .int .u64 ((limb 1 B.1 : Nat) : Int), .int .u64 ((limb 2 B.1 : Nat) : Int), .int .u64 ((limb 3 B.1 : Nat) : Int), .int .u64 ((limb 0 B.2.1 : Nat) : Int), .int .u64 ((limb 1 B.2.1 : Nat) : Int), .int .u64 ((limb 2 B.2.1 : Nat) : Int), .int .u64 ((limb 3 B.2.1 : Nat) : Int), .bool B.2.2] 29) := ⟨_, rfl⟩
 have hb0 : Below w.heap.size w w0 := by rw [hw0]; exact bAlloc (Below.refl _ _) _
 obtain ⟨N1, e1⟩ : ∃ N, N = w.heap.size := ⟨_, rfl⟩
 have p10 : Par w0 N1 C K (.slice oa n cn) A B := by rw [hw0]; exact Par.newAt _ _ _ _ _ _ _ e1
 have HE1 : Hid (parV C K (.slice oa n cn) A B = .agg cs1) := by rw [ecs1]; rfl
 clear hg hR hck hrc hn hM hA hB
 go_enter Tryz.func3, Tryz.ntmps3
 go_upto_region 1 with fail
 rw [← hw0, ← e1]
 clear hw0 e1
 go_wp2_with fail
 refine (alive9_any w0 (HG.out.below hb0)).mono ?_
 rintro e w1 ⟨rfl, hb1⟩
 have p11 := p10.belowAll hb1; have hbw1 := bStep hb0 hb1
 have q2 := p11.c2
 go_upto_region 5 with fail
 have hp11 : w1.heap[N1]? = some (.cells cs1 29) := by rw [ecs1]; exact p11
 have l1 := p11.lt
 clear q2 p10 p11 hb0 hb1 ecs1
 go_wp2_with (refine wpList_load_row rfl 29 _ rfl N1 rfl 29 cs1 (0, 0) _ hp11 parUnd rfl HSZ1.out ?_; simp only [Act.put])
 refine (HCP.out w1 hbw1).mono ?_
 rintro e w2 ⟨⟨cs2, o2, k2, rfl, HE2, hR2⟩, hb2⟩
 have hp12 : w2.heap[N1]? = some (.cells cs1 29) := (hb2.block N1 l1).trans hp11
 have l12 : N1 < w2.heap.size := Nat.lt_of_lt_of_le l1 hb2.size
 have hbw2 := bStep hbw1 hb2
 have pz : Par (w2.alloc (.cells #[.int .i64 0, .int .i64 0, .slice none 0 0, .int .u64 0, .int .u64 0, .int .u64 0, .int .u64 0, .int .u64 0, .int .u64 0, .int .u64 0, .int .u64 0, .bool false, .int .u64 0, .int .u64 0, .int .u64 0, .int .u64 0, .int .u64 0, .int .u64 0, .int .u64 0, .int .u64 0, .bool false] 29)) w2.heap.size 0 0 (.slice none 0 0) (0, 0, false) (0, 0, false) := Par.newZ _ _ rfl
 have ec2 : cs2 = #[.int .i64 C, .int .i64 K, .slice o2 n k2, .int .u64 ((limb 0 A.1 : Nat) : Int), .int .u64 ((limb 1 A.1 : Nat) : Int), .int .u64 ((limb 2 A.1 : Nat) : Int), .int .u64 ((limb 3 A.1 : Nat) : Int), .int .u64 ((limb 0 A.2.1 : Nat) : Int), .int .u64 ((limb 1 A.2.1 : Nat) : Int), .int .u64 ((limb 2 A.2.1 : Nat) : Int), .int .u64 ((limb 3 A.2.1 : Nat) : Int), .bool A.2.2, .int .u64 ((limb 0 B.1 : Nat) : Int), .int .u64 ((limb 1 B.1 : Nat) : Int), .int .u64 ((limb 2 B.1 : Nat) : Int), .int .u64 ((limb 3 B.1 : Nat) : Int), .int .u64 ((limb 0 B.2.1 : Nat) : Int), .int .u64 ((limb 1 B.2.1 : Nat) : Int), .int .u64 ((limb 2 B.2.1 : Nat) : Int), .int .u64 ((limb 3 B.2.1 : Nat) : Int), .bool B.2.2] := by have h := HE2.out; unfold parV at h; cases h; rfl
 obtain ⟨w5, hw5, p35, hk5⟩ := pz.putAll C K (.slice o2 n k2) A B
 have hbe : Below w2.heap.size w2 w5 := bKeptQ (bAlloc (Below.refl _ _) _) (Nat.le_refl _) hk5
 have HSZ2 : Hid ((Tryz.prog.info? 29).map (·.size) = some cs2.size) := by rw [ec2]; exact parSize
 have HTH : Hid ((w2.alloc (.cells #[.int .i64 0, .int .i64 0, .slice none 0 0, .int .u64 0, .int .u64 0, .int .u64 0, .int .u64 0, .int .u64 0, .int .u64 0, .int .u64 0, .int .u64 0, .bool false, .int .u64 0, .int .u64 0, .int .u64 0, .int .u64 0, .int .u64 0, .int .u64 0, .int .u64 0, .int .u64 0, .bool false] 29)).there w2.heap.size 0 cs2.size) := by rw [ec2]; exact pz.there
 have HON : Hid (cs2.all (·.oneCell') = true) := by rw [ec2]; exact parOne _ _ _ _ _ rfl
 have HW5 : Hid ((w2.alloc (.cells #[.int .i64 0, .int .i64 0, .slice none 0 0, .int .u64 0, .int .u64 0, .int .u64 0, .int .u64 0, .int .u64 0, .int .u64 0, .int .u64 0, .int .u64 0, .bool false, .int .u64 0, .int .u64 0, .int .u64 0, .int .u64 0, .int .u64 0, .int .u64 0, .int .u64 0, .int .u64 0, .bool false] 29)).setCells w2.heap.size 0 cs2.toList = w5) := by rw [ec2]; exact hw5
 have hp3' : w5.heap[w2.heap.size]? = some (.cells cs2 29) := by rw [ec2]; exact p35
 clear pz hw5 p35 hk5 hp11 l1 hb2 hbw1 ec2
 go_upto_region 6 with (refine wpList_store_mid rfl 29 _ _ rfl w2.heap.size 0 cs2 rfl rfl HTH.out HSZ2.out HON.out ?_; simp only [Act.put])
 rw [HW5.out]
 obtain ⟨N3, e3⟩ : ∃ N, N = w2.heap.size := ⟨_, rfl⟩
 rw [← e3] at hp3' ⊢
 have hp3 : w5.heap[N3]? = some (.cells cs2 29) := hp3'
 have hp1 : w5.heap[N1]? = some (.cells cs1 29) := (hbe.block N1 l12).trans hp12
 have hbw5 := bStep hbw2 hbe
 have HPK : Hid (∀ w', Below w5.heap.size w5 w' → w'.heap[N1]? = some (.cells cs1 29) ∧ w'.heap[N3]? = some (.cells cs2 29)) := fun w' hb => ⟨(hb.block N1 (Nat.lt_of_lt_of_le l12 hbe.size)).trans hp1, (hb.block N3 (Array.getElem?_eq_some_iff.1 hp3).1).trans hp3⟩
 have HR5 : Hid (Rs w5 (.slice o2 n k2) 9 n (fun i => pC (G i))) := hR2.below hbe
 have HC2 : Hid (∀ w', Below w5.heap.size w5 w' → Calls Tryz.prog 8 #[.agg cs2] w' fun e w'' => e = .returned (.int .i64 ER) ∧ Below w'.heap.size w' w'') := fun w' hb => by
  rw [← HE2.out]
  exact HC0.out.1 w' o2 k2 ((HG.out.below hbw5).below hb) (HR5.out.below hb)
 have HC1 : Hid (∀ w', Below w5.heap.size w5 w' → Calls Tryz.prog 9 #[.agg cs1] w' fun e w'' => e = .returned (.int .i64 ER) ∧ Below w'.heap.size w' w'') := fun w' hb => by
  rw [← HE1.out]
  exact HC0.out.2 w' oa cn ((HR.out.below hbw5).below hb)
 have HSA : Hid (∀ w', Below w5.heap.size w5 w' → Calls Tryz.prog 10 #[.agg cs2, .agg cs1] w' fun e w'' => e = .returned (.bool true) ∧ Below w'.heap.size w' w'') := fun w' hb => by
  rw [← HE1.out, ← HE2.out]
  exact samePar_self C K n _ _ G A B (by have := HMM.out.1; omega) HMM.out.2.1 HMM.out.2.2.1 HMM.out.2.2.2 w' (HR5.out.below hb) ((HR.out.below hbw5).below hb)
 clear e3 hp3' HW5 HTH HON hbe hbw2 l12 hp12 hR2 HC0 HE1 HE2 HCP
 refine wp_region_Z (fun w' => w'.heap[N1]? = some (.cells cs1 29) ∧ w'.heap[N3]? = some (.cells cs2 29)) 99 (by kernel_rfl) ?_
 obtain ⟨wD, hD⟩ : ∃ x : World, x = w5.drew := ⟨_, rfl⟩
 rw [← hD]
 have hp0 : wD.heap[N1]? = some (.cells cs1 29) ∧ wD.heap[N3]? = some (.cells cs2 29) := by rw [hD]; exact ⟨hp1, hp3⟩
 have hlow0 : Below w5.heap.size w5 wD := by rw [hD]; exact (Below.refl _ _).drew
 clear hD
 refine wpZ_take (i := 0) (v := .agg cs2) 12 rfl rfl (by kernel_rfl) (by kernel_rfl) (by kernel_rfl) (Or.inr (by decide)) (fun _ _ _ h => h) (yLoad rfl _ rfl N3 rfl cs2 (fun w h => h.2) HSZ2.out) hp0 ?_
 simp only [Act.put, z1]
 dsimp only [z2, z3]
 refine wpZ_take (i := 2) (v := .agg cs1) 14 rfl rfl (by kernel_rfl) (by kernel_rfl) (by kernel_rfl) (Or.inr (by decide)) (fun _ _ _ h => h) (yLoad rfl _ rfl N1 rfl cs1 (fun w h => h.1) HSZ1.out) hp0 ?_
 simp only [Act.put, z1]
 dsimp only [z2, z3]
 refine wpZ_one (i := 1) (by kernel_rfl) rfl (fun K hK => ?_)
 go_simp
 refine (HC2.out wD hlow0).mono ?_
 rintro e w6 ⟨rfl, hb6⟩
 have hp6 := HPK.out w6 (bStep hlow0 hb6); have hlow6 := bStep hlow0 hb6
 go_wp2_with fail
 refine hK.out _ _ (fun _ => hp6) ?_
 clear hK K
 refine wpZ_one (i := 3) (by kernel_rfl) rfl (fun K hK => ?_)
 go_simp
 refine (HC1.out w6 hlow6).mono ?_
 rintro e w7 ⟨rfl, hb7⟩
 have hp7 := HPK.out w7 (bStep hlow6 hb7); have hlow7 := bStep hlow6 hb7
 go_wp2_with fail
 refine hK.out _ _ (fun _ => hp7) ?_
 clear hK K
 refine zt 4 16 (.bool true) rfl rfl (fun w hSw => by go_simp) hp7 ?_
 simp only [Act.put, z1]
 dsimp only [z2, z3]
 refine zt 5 17 (.bool true) rfl rfl (fun w hSw => by go_simp) hp7 ?_
 simp only [Act.put, z1]
 dsimp only [z2, z3]
 refine wpZ_take (i := 6) (v := .agg cs2) 18 rfl rfl (by kernel_rfl) (by kernel_rfl) (by kernel_rfl) (Or.inr (by decide)) (fun _ _ _ h => h) (yLoad rfl _ rfl N3 rfl cs2 (fun w h => h.2) HSZ2.out) hp7 ?_
 simp only [Act.put, z1]
 dsimp only [z2, z3]
 refine wpZ_take (i := 7) (v := .agg cs1) 19 rfl rfl (by kernel_rfl) (by kernel_rfl) (by kernel_rfl) (Or.inr (by decide)) (fun _ _ _ h => h) (yLoad rfl _ rfl N1 rfl cs1 (fun w h => h.1) HSZ1.out) hp7 ?_
 simp only [Act.put, z1]
 dsimp only [z2, z3]
 refine wpZ_one (i := 8) (by kernel_rfl) rfl (fun K hK => ?_)
 go_simp
 refine (HSA.out w7 hlow7).mono ?_
 rintro e w8 ⟨rfl, hb8⟩
 have hp8 := HPK.out w8 (bStep hlow7 hb8); have hlow8 := bStep hlow7 hb8
 go_wp2_with fail
 refine hK.out _ _ (fun _ => hp8) ?_
 clear hK K
 refine zt 9 21 (.bool true) rfl rfl (fun w hSw => by go_simp) hp8 ?_
 simp only [Act.put, z1]
 dsimp only [z2, z3]
 refine zt 10 2 (.bool true) rfl rfl (fun w hSw => by go_simp) hp8 ?_
 simp only [Act.put, z1]
 dsimp only [z2, z3]
 refine wpZ_done (by kernel_rfl) ?_ _
 have HFIN : Hid (Below w.heap.size w w8) := bStep hbw5 hlow8
 clear hp0 hp6 hp7 hp8 hp1 hp3 hlow0 hlow6 hlow7 hlow8 hb6 hb7 hb8
 go_wp2
 go_ret
 exact ⟨rfl, HFIN.out⟩
set_option maxHeartbeats 8000000 in
set_option maxRecDepth 20000 in
theorem pchecks_big (C K : Int) (n cn : Nat) (oa : Option Addr) (A B : Nat × Nat × Bool) (hn : 100 < n) (w : World) (hg : GlobC w) :
  Calls Tryz.prog 3 #[parV C K (.slice oa n cn) A B] w fun e w' => e = .returned (.bool true) ∧ Below w.heap.size w w' := by
 have HG : Hid (GlobC w) := hg
 have hn100 : (100 : Int) < (n : Int) := by omega
 unfold parV
 obtain ⟨w0, hw0⟩ : ∃ z : World, z = w.alloc (.cells #[.int .i64 C, .int .i64 K, .slice oa n cn, .int .u64 ((limb 0 A.1 : Nat) : Int), .int .u64 ((limb 1 A.1 : Nat) : Int), .int .u64 ((limb 2 A.1 : Nat) : Int), .int .u64 ((limb 3 A.1 : Nat) : Int), .int .u64 ((limb 0 A.2.1 : Nat) : Int), .int .u64 ((limb 1 A.2.1 : Nat) : Int), .int .u64 ((limb 2 A.2.1 : Nat) : Int), .int .u64 ((limb 3 A.2.1 : Nat) : Int), .bool A.2.2, .int .u64 ((limb 0 B.1 : Nat) : Int), .int .u64 ((limb 1 B.1 : Nat) : Int), .int .u64 ((limb 2 B.1 : Nat) : Int), .int .u64 ((limb 3 B.1 : Nat) : Int), .int .u64 ((limb 0 B.2.1 : Nat) : Int), .int .u64 ((limb 1 B.2.1 : Nat) : Int), .int .u64 ((limb 2 B.2.1 : Nat) : Int), .int .u64 ((limb 3 B.2.1 : Nat) : Int), .bool B.2.2] 29) := ⟨_, rfl⟩
 have hb0 : Below w.heap.size w w0 := by rw [hw0]; exact bAlloc (Below.refl _ _) _
 obtain ⟨N1, e1⟩ : ∃ N, N = w.heap.size := ⟨_, rfl⟩
 have p10 : Par w0 N1 C K (.slice oa n cn) A B := by rw [hw0]; exact Par.newAt _ _ _ _ _ _ _ e1
 clear hg
 go_enter Tryz.func3, Tryz.ntmps3
 go_upto_region 1 with fail
 rw [← hw0, ← e1]
 clear hw0 e1
 go_wp2_with fail
 refine (alive9_any w0 (HG.out.below hb0)).mono ?_
 rintro e w1 ⟨rfl, hb1⟩
 have p11 := p10.belowAll hb1; have hbw1 := bStep hb0 hb1
 have q2 := p11.c2
 clear p10 p11 hb0 hb1
 go_wp2
 go_ret
 exact ⟨rfl, hbw1⟩
/-- ParamsChecks is true of any parameters. -/
theorem pchecks_walk (C K : Int) (g : Value) (n : Nat) (G : Nat → Nat × Nat × Bool) (A B : Nat × Nat × Bool) (hM : ∀ i, i < n → (G i).1 < 115792089237316195423570985008687907853269984665640564039457584007913129639936 ∧ (G i).2.1 < 115792089237316195423570985008687907853269984665640564039457584007913129639936) (hA : A.1 < 115792089237316195423570985008687907853269984665640564039457584007913129639936 ∧ A.2.1 < 115792089237316195423570985008687907853269984665640564039457584007913129639936) (hB : B.1 < 115792089237316195423570985008687907853269984665640564039457584007913129639936 ∧ B.2.1 < 115792089237316195423570985008687907853269984665640564039457584007913129639936) (w : World) (hg : GlobC w) (hR : Rs w g 9 n (fun i => pC (G i))) :
  Calls Tryz.prog 3 #[parV C K g A B] w fun e w' => e = .returned (.bool true) ∧ Below w.heap.size w w' := by
 obtain ⟨oa, cn, rfl⟩ := hR.shape
 rcases Nat.lt_or_ge 100 n with hn | hn
 ·exact pchecks_big C K n cn oa A B hn w hg
 ·by_cases hc : C < 0 ∨ 4 ≤ C
  ·exact pchecks_in 40 C K n cn oa G A B hn hM hA hB w hg hR (fun w' o k _ _ => chk_c C K _ A B hc w') (fun w' o k _ => rchk_c C K _ A B hc w')
  ·obtain ⟨c, rfl⟩ : ∃ c : Nat, C = c := ⟨C.toNat, by omega⟩
   have hc4 : c < 4 := by omega
   by_cases hk : K < 0 ∨ 5 < K
   ·exact pchecks_in 60 c K n cn oa G A B hn hM hA hB w hg hR (fun w' o k h _ => chk_k c K _ A B hc4 hk w' h) (fun w' o k _ => rchk_k c K _ A B hc4 hk w')
   ·obtain ⟨k, rfl⟩ : ∃ k : Nat, K = k := ⟨K.toNat, by omega⟩
    exact pchecks_in _ c k n cn oa G A B hn hM hA hB w hg hR (fun w' o k' h hr => chk_in c k n k' o G A B hc4 (by omega) (by omega) hM hA hB w' h hr) (fun w' o k' hr => rchk_in c k n k' o G A B hc4 (by omega) (by omega) hM hA hB w' hr)
end Go.Proofs.YtdeijnlbencfdaaGreatDoor
