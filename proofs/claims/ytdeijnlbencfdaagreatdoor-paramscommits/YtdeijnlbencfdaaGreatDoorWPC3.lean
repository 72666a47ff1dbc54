import Derived.Test.YtdeijnlbencfdaaGreatDoorWPC2
import Derived.Test.YtdeijnlbencfdaaGreatDoorWPY
import Derived.BigFrame
set_option maxHeartbeats 16000000
namespace Go.Proofs.YtdeijnlbencfdaaGreatDoor
open Go.RowKit
theorem loadG {ops : Array Oper} {rest : List Oper} {o : Oper} {a : Act} {w : World} {Q : Exit → Act → World → Prop} (hw : Region.wanted o (yielded ops a.tmps) = true) (x : Operand) (ho : o.op = .load 29 x) (g : Nat) (hx : a.eval x = .pointer (some ⟨g, 0, none⟩)) (cs : Array Value) (hg : w.heap[g]? = some (.cells cs 29)) (hi : (Tryz.prog.info? 29).map (·.size) = some cs.size)
  (h : wpList Tryz.prog ops Q rest (a.put o.dst (.agg cs)) w) : wpList Tryz.prog ops Q (o :: rest) a w :=
 BigFrame.wpList_want hw fun _ hK => wp_load_row 29 x ho g hx 29 cs (0, 0) _ hg parUnd rfl hi (hK _ _ h)
set_option maxRecDepth 20000 in
theorem pcommits_in (ER C K : Int) (Q : Nat × Nat × Bool) (n cn m cm b : Nat) (oa ob : Option Addr) (G : Nat → Nat × Nat × Bool) (A B : Nat × Nat × Bool) (f : Nat → Nat) (hn : n ≤ 100) (hm : m ≤ 100) (hC2 : ¬ C = 2) (hC3 : ¬ C = 3) (hQ : Q.1 < mM ∧ Q.2.1 < mM) (hM : ∀ i, i < n → (G i).1 < mM ∧ (G i).2.1 < mM) (hA : A.1 < mM ∧ A.2.1 < mM) (hB : B.1 < mM ∧ B.2.1 < mM) (hf : ∀ i, i < m → f i < mM) (w : World) (hg : GlobC w) (hR : Rs w (.slice oa n cn) 9 n (fun i => pC (G i))) (hF : Es w (.slice ob m cm) m f)
  (hcm : ∀ (w' : World) (o o' : Option Addr) (k k' : Nat), GlobC w' → Rs w' (.slice o n k) 9 n (fun i => pC (G i)) → Es w' (.slice o' m k') m f → Calls Tryz.prog 12 #[parV C K (.slice o n k) A B, .slice o' m k', .agg #[.int .u64 (limb 0 b), .int .u64 (limb 1 b), .int .u64 (limb 2 b), .int .u64 (limb 3 b)]] w' fun e w'' => e = .returned (.tuple #[.agg #[.int .u64 (limb 0 Q.1), .int .u64 (limb 1 Q.1), .int .u64 (limb 2 Q.1), .int .u64 (limb 3 Q.1), .int .u64 (limb 0 Q.2.1), .int .u64 (limb 1 Q.2.1), .int .u64 (limb 2 Q.2.1), .int .u64 (limb 3 Q.2.1), .bool Q.2.2], .int .i64 ER]) ∧ Below w'.heap.size w' w'')
  (hrm : ∀ (w' : World) (o o' : Option Addr) (k k' : Nat), Rs w' (.slice o n k) 9 n (fun i => pC (G i)) → Es w' (.slice o' m k') m f → Calls Tryz.prog 13 #[parV C K (.slice o n k) A B, .slice o' m k', .agg #[.int .u64 (limb 0 b), .int .u64 (limb 1 b), .int .u64 (limb 2 b), .int .u64 (limb 3 b)]] w' fun e w'' => e = .returned (.tuple #[.agg #[.int .u64 (limb 0 Q.1), .int .u64 (limb 1 Q.1), .int .u64 (limb 2 Q.1), .int .u64 (limb 3 Q.1), .int .u64 (limb 0 Q.2.1), .int .u64 (limb 1 Q.2.1), .int .u64 (limb 2 Q.2.1), .int .u64 (limb 3 Q.2.1), .bool Q.2.2], .int .i64 ER]) ∧ Below w'.heap.size w' w'') :
  Calls Tryz.prog 4 #[parV C K (.slice oa n cn) A B, .slice ob m cm, .agg #[.int .u64 (limb 0 b), .int .u64 (limb 1 b), .int .u64 (limb 2 b), .int .u64 (limb 3 b)]] w fun e w' => e = .returned (.bool true) ∧ Below w.heap.size w w' := by
 have HG : Hid (GlobC w) := hg
 have HR : Hid (Rs w (.slice oa n cn) 9 n (fun i => pC (G i))) := hR
 have HF : Hid (Es w (.slice ob m cm) m f) := hF
 obtain ⟨cs1, ecs1⟩ : ∃ cs : Array Value, cs = #[.int .i64 C, .int .i64 K, .slice oa n cn, .int .u64 (limb 0 A.1), .int .u64 (limb 1 A.1), .int .u64 (limb 2 A.1), .int .u64 (limb 3 A.1), .int .u64 (limb 0 A.2.1), .int .u64 (limb 1 A.2.1), .int .u64 (limb 2 A.2.1), .int .u64 (limb 3 A.2.1), .bool A.2.2, .int .u64 (limb 0 B.1), .int .u64 (limb 1 B.1), .int .u64 (limb 2 B.1), .int .u64 (limb 3 B.1), .int .u64 (limb 0 B.2.1), .int .u64 (limb 1 B.2.1), .int .u64 (limb 2 B.2.1), .int .u64 (limb 3 B.2.1), .bool B.2.2] := ⟨_, rfl⟩
 have HCP : Hid (∀ w', Below w.heap.size w w' → Calls Tryz.prog 7 #[.agg cs1] w' fun e w'' => (∃ (cs : Array Value) (o : Option Addr) (k : Nat), e = .returned (.agg cs) ∧ Hid (parV C K (.slice o n k) A B = .agg cs) ∧ Rs w'' (.slice o n k) 9 n (fun i => pC (G i))) ∧ Below w'.heap.size w' w'') := fun w' hb => by
  rw [ecs1]
  refine (copyPar_any C K n cn oa G A B (by omega) w' (hR.below hb)).mono ?_
  rintro e w'' ⟨⟨o, k, rfl, h1⟩, h2⟩
  exact ⟨⟨_, o, k, rfl, rfl, h1⟩, h2⟩
 have HMM : Hid ((n ≤ 100 ∧ m ≤ 100) ∧ (∀ i, i < n → (G i).1 < mM ∧ (G i).2.1 < mM) ∧ (A.1 < mM ∧ A.2.1 < mM) ∧ (B.1 < mM ∧ B.2.1 < mM) ∧ (∀ i, i < m → f i < mM)) := ⟨⟨hn, hm⟩, hM, hA, hB, hf⟩
 have HC0 : Hid ((∀ (w' : World) (o o' : Option Addr) (k k' : Nat), GlobC w' → Rs w' (.slice o n k) 9 n (fun i => pC (G i)) → Es w' (.slice o' m k') m f → Calls Tryz.prog 12 #[parV C K (.slice o n k) A B, .slice o' m k', .agg #[.int .u64 (limb 0 b), .int .u64 (limb 1 b), .int .u64 (limb 2 b), .int .u64 (limb 3 b)]] w' fun e w'' => e = .returned (.tuple #[.agg #[.int .u64 (limb 0 Q.1), .int .u64 (limb 1 Q.1), .int .u64 (limb 2 Q.1), .int .u64 (limb 3 Q.1), .int .u64 (limb 0 Q.2.1), .int .u64 (limb 1 Q.2.1), .int .u64 (limb 2 Q.2.1), .int .u64 (limb 3 Q.2.1), .bool Q.2.2], .int .i64 ER]) ∧ Below w'.heap.size w' w'') ∧ (∀ (w' : World) (o o' : Option Addr) (k k' : Nat), Rs w' (.slice o n k) 9 n (fun i => pC (G i)) → Es w' (.slice o' m k') m f → Calls Tryz.prog 13 #[parV C K (.slice o n k) A B, .slice o' m k', .agg #[.int .u64 (limb 0 b), .int .u64 (limb 1 b), .int .u64 (limb 2 b), .int .u64 (limb 3 b)]] w' fun e w'' => e = .returned (.tuple #[.agg #[.int .u64 (limb 0 Q.1), .int .u64 (limb 1 Q.1), .int .u64 (limb 2 Q.1), .int .u64 (limb 3 Q.1), .int .u64 (limb 0 Q.2.1), .int .u64 (limb 1 Q.2.1), .int .u64 (limb 2 Q.2.1), .int .u64 (limb 3 Q.2.1), .bool Q.2.2], .int .i64 ER]) ∧ Below w'.heap.size w' w'')) := ⟨hcm, hrm⟩
 have HSZ1 : Hid ((Tryz.prog.info? 29).map (·.size) = some cs1.size) := by rw [ecs1]; exact parSize
 have HEQ : Hid (∀ w, (binOp .eql 27 (.agg #[.int .u64 (limb 0 Q.1), .int .u64 (limb 1 Q.1), .int .u64 (limb 2 Q.1), .int .u64 (limb 3 Q.1), .int .u64 (limb 0 Q.2.1), .int .u64 (limb 1 Q.2.1), .int .u64 (limb 2 Q.2.1), .int .u64 (limb 3 Q.2.1), .bool Q.2.2]) (.agg #[.int .u64 (limb 0 Q.1), .int .u64 (limb 1 Q.1), .int .u64 (limb 2 Q.1), .int .u64 (limb 3 Q.1), .int .u64 (limb 0 Q.2.1), .int .u64 (limb 1 Q.2.1), .int .u64 (limb 2 Q.2.1), .int .u64 (limb 3 Q.2.1), .bool Q.2.2])).run Tryz.prog w = .ok (.bool true) w) := fun w => eqlP_self _ _ _ hQ.1 hQ.2 w
 have hn100 : ¬ (100 : Int) < (n : Int) := by omega
 have hm100 : ¬ (100 : Int) < (m : Int) := by omega
 have hd1 : decide ((100 : Int) < (n : Int)) = false := decide_eq_false hn100
 have hd2 : decide ((100 : Int) < (m : Int)) = false := decide_eq_false hm100
 have hd3 : (C == 2) = false := by simpa using hC2
 have hd4 : (C == 3) = false := by simpa using hC3
 have HE1 : Hid (parV C K (.slice oa n cn) A B = .agg cs1) := by rw [ecs1]; rfl
 unfold parV
 obtain ⟨w0, hw0⟩ : ∃ z : World, z = (w.alloc (pA C K (.slice oa n cn) A B)).alloc (.cells #[.int .u64 (limb 0 b), .int .u64 (limb 1 b), .int .u64 (limb 2 b), .int .u64 (limb 3 b)] 25) := ⟨_, rfl⟩
 have hs1 : (w.alloc (pA C K (.slice oa n cn) A B)).heap.size = w.heap.size + 1 := Array.size_push ..
 have hb0 : Below w.heap.size w w0 := by rw [hw0]; exact bAlloc (bAlloc (Below.refl _ _) _) _
 obtain ⟨N3, e3⟩ : ∃ N, N = w.heap.size := ⟨_, rfl⟩
 obtain ⟨N5, e5⟩ : ∃ N, N = N3 + 1 := ⟨_, rfl⟩
 have p30 : Par w0 N3 C K (.slice oa n cn) A B := by rw [hw0]; exact (Par.newAt _ _ _ _ _ _ _ e3).belowAll (bAlloc (Below.refl _ _) _)
 have b50 : Blk w0 25 N5 (fun i => limb i b) := by rw [hw0]; exact Blk.newAt _ _ _ (fun i => limb i b) (by omega)
 clear hg hR hF hcm hrm hn hm hQ hM hA hB hf
 go_enter Tryz.func4, Tryz.ntmps4
 go_upto_region 1 with fail
 rw [← hw0, ← e3, ← e5]
 clear hw0 e3 e5 hs1
 go_wp2_with fail
 refine (alive9_any w0 (HG.out.below hb0)).mono ?_
 rintro e w1 ⟨rfl, hb1⟩
 have p31 := p30.belowAll hb1; have b51 := b50.belowAll hb1; have hbw1 := bStep hb0 hb1
 have q0 := p31.c0; have q2 := p31.c2
 go_upto_region 5 with fail
 have hp31 : w1.heap[N3]? = some (.cells cs1 29) := by rw [ecs1]; exact p31
 have l3 := p31.lt
 clear q0 q2 p30 p31 hb0 hb1 ecs1 b50
 go_wp2_with (refine wpList_load_row rfl 29 _ rfl N3 rfl 29 cs1 (0, 0) _ hp31 parUnd rfl HSZ1.out ?_; simp only [Act.put])
 refine (HCP.out w1 hbw1).mono ?_
 rintro e w2 ⟨⟨cs2, o2, k2, rfl, HE2, hR2⟩, hb2⟩
 have hp32 : w2.heap[N3]? = some (.cells cs1 29) := (hb2.block N3 l3).trans hp31
 have b52 := b51.belowAll hb2
 have l32 : N3 < w2.heap.size := Nat.lt_of_lt_of_le l3 hb2.size
 have hbw2 := bStep hbw1 hb2
 have pz : Par (w2.alloc zA) w2.heap.size 0 0 (.slice none 0 0) (0, 0, false) (0, 0, false) := Par.newZ _ _ rfl
 have ec2 : cs2 = #[.int .i64 C, .int .i64 K, .slice o2 n k2, .int .u64 (limb 0 A.1), .int .u64 (limb 1 A.1), .int .u64 (limb 2 A.1), .int .u64 (limb 3 A.1), .int .u64 (limb 0 A.2.1), .int .u64 (limb 1 A.2.1), .int .u64 (limb 2 A.2.1), .int .u64 (limb 3 A.2.1), .bool A.2.2, .int .u64 (limb 0 B.1), .int .u64 (limb 1 B.1), .int .u64 (limb 2 B.1), .int .u64 (limb 3 B.1), .int .u64 (limb 0 B.2.1), .int .u64 (limb 1 B.2.1), .int .u64 (limb 2 B.2.1), .int .u64 (limb 3 B.2.1), .bool B.2.2] := by have h := HE2.out; unfold parV at h; cases h; rfl
 obtain ⟨w3, hw3, p73, hk3⟩ := pz.putAll C K (.slice o2 n k2) A B
 have hbe : Below w2.heap.size w2 w3 := bKeptQ (bAlloc (Below.refl _ _) _) (Nat.le_refl _) hk3
 have HSZ2 : Hid ((Tryz.prog.info? 29).map (·.size) = some cs2.size) := by rw [ec2]; exact parSize
 have HTH : Hid ((w2.alloc zA).there w2.heap.size 0 cs2.size) := by rw [ec2]; exact pz.there
 have HON : Hid (cs2.all (·.oneCell') = true) := by rw [ec2]; exact parOne _ _ _ _ _ rfl
 have HW3 : Hid ((w2.alloc zA).setCells w2.heap.size 0 cs2.toList = w3) := by rw [ec2]; exact hw3
 have hp7' : w3.heap[w2.heap.size]? = some (.cells cs2 29) := by rw [ec2]; exact p73
 clear pz hw3 p73 hk3 hp31 l3 hb2 hbw1 ec2 b51
 go_upto_region 6 with (refine wpList_store_mid rfl 29 _ _ rfl w2.heap.size 0 cs2 rfl rfl HTH.out HSZ2.out HON.out ?_; simp only [Act.put])
 rw [HW3.out]
 obtain ⟨N7, e7⟩ : ∃ N, N = w2.heap.size := ⟨_, rfl⟩
 rw [← e7] at hp7' ⊢
 have hp7 : w3.heap[N7]? = some (.cells cs2 29) := hp7'
 have hp3 : w3.heap[N3]? = some (.cells cs1 29) := (hbe.block N3 l32).trans hp32
 have b53 := b52.belowAll hbe
 have hbw3 := bStep hbw2 hbe
 have l33 : N3 < w3.heap.size := Nat.lt_of_lt_of_le l32 hbe.size
 have l73 : N7 < w3.heap.size := (Array.getElem?_eq_some_iff.1 hp7).1
 have HPK : Hid (∀ w', Below w3.heap.size w3 w' → w'.heap[N3]? = some (.cells cs1 29) ∧ w'.heap[N7]? = some (.cells cs2 29) ∧ Blk w' 25 N5 (fun i => limb i b)) := fun w' hb => ⟨(hb.block N3 l33).trans hp3, (hb.block N7 l73).trans hp7, b53.belowAll hb⟩
 have HR3 : Hid (Rs w3 (.slice o2 n k2) 9 n (fun i => pC (G i))) := hR2.below hbe
 clear e7 hp7' HW3 HTH HON hbe hbw2 l32 hp32 hR2 HCP b52 hp3 hp7 b53 l33 l73
 go_wp2_with fail
 refine (copyE_any m _ f (by have := HMM.out.1; omega) w3 (HF.out.below hbw3)).mono ?_
 rintro e w4 ⟨v4, rfl, ho4, hb4⟩
 have hE4 := own_Es ho4
 obtain ⟨o4, k4, rfl⟩ := hE4.shape
 have HE4 : Hid (Es w4 (.slice o4 m k4) m f) := hE4
 have hl4 := hb4
 obtain ⟨hp34, hp74, b54⟩ := HPK.out w4 hl4
 clear ho4 hE4 hb4
 have c5 := b54.cell
 have HC2 : Hid (∀ w', Below w4.heap.size w4 w' → Calls Tryz.prog 12 #[.agg cs2, .slice o4 m k4, .agg #[.int .u64 (limb 0 b), .int .u64 (limb 1 b), .int .u64 (limb 2 b), .int .u64 (limb 3 b)]] w' fun e w'' => e = .returned (.tuple #[.agg #[.int .u64 (limb 0 Q.1), .int .u64 (limb 1 Q.1), .int .u64 (limb 2 Q.1), .int .u64 (limb 3 Q.1), .int .u64 (limb 0 Q.2.1), .int .u64 (limb 1 Q.2.1), .int .u64 (limb 2 Q.2.1), .int .u64 (limb 3 Q.2.1), .bool Q.2.2], .int .i64 ER]) ∧ Below w'.heap.size w' w'') := fun w' hb => by
  rw [← HE2.out]
  exact HC0.out.1 w' o2 o4 k2 k4 ((HG.out.below hbw3).below (bStep hl4 hb)) (HR3.out.below (bStep hl4 hb)) (HE4.out.below hb)
 go_wp2_with (refine wpList_load_row rfl 29 _ rfl N7 rfl 29 cs2 (0, 0) _ hp74 parUnd rfl HSZ2.out ?_; simp only [Act.put])
 refine (HC2.out w4 (Below.refl _ _)).mono ?_
 rintro e w5 ⟨rfl, hb5⟩
 have hl5 := bStep hl4 hb5
 clear hp34 hp74 b54 c5 HC2
 have hbe : Below w5.heap.size w5 (w5.alloc (qA Q.1 Q.2.1 Q.2.2)) := bAlloc (Below.refl _ _) _
 have hbt : Pt (w5.alloc (qA Q.1 Q.2.1 Q.2.2)) w5.heap.size Q.1 Q.2.1 Q.2.2 := Pt.newAt _ _ _ _ _ rfl
 go_upto_region 8 with fail
 obtain ⟨N9, e9⟩ : ∃ N, N = w5.heap.size := ⟨_, rfl⟩
 obtain ⟨w6, hw6⟩ : ∃ z : World, z = w5.alloc (qA Q.1 Q.2.1 Q.2.2) := ⟨_, rfl⟩
 rw [← hw6] at hbe
 rw [← hw6, ← e9] at hbt
 rw [← hw6, ← e9]
 have hl6 := bStep hl5 hbe
 have HE6 : Hid (Es w6 (.slice o4 m k4) m f) := HE4.out.below (bStep hb5 hbe)
 obtain ⟨hp36, hp76, b56⟩ := HPK.out w6 hl6
 have c5 := b56.cell
 clear hw6 e9 hbe hb5 hl5 HE4
 have HC1 : Hid (∀ w', Below w6.heap.size w6 w' → Calls Tryz.prog 13 #[.agg cs1, .slice ob m cm, .agg #[.int .u64 (limb 0 b), .int .u64 (limb 1 b), .int .u64 (limb 2 b), .int .u64 (limb 3 b)]] w' fun e w'' => e = .returned (.tuple #[.agg #[.int .u64 (limb 0 Q.1), .int .u64 (limb 1 Q.1), .int .u64 (limb 2 Q.1), .int .u64 (limb 3 Q.1), .int .u64 (limb 0 Q.2.1), .int .u64 (limb 1 Q.2.1), .int .u64 (limb 2 Q.2.1), .int .u64 (limb 3 Q.2.1), .bool Q.2.2], .int .i64 ER]) ∧ Below w'.heap.size w' w'') := fun w' hb => by
  rw [← HE1.out]
  exact HC0.out.2 w' oa ob cn cm ((HR.out.below hbw3).below (bStep hl6 hb)) ((HF.out.below hbw3).below (bStep hl6 hb))
 go_wp2_with (refine wpList_load_row rfl 29 _ rfl N3 rfl 29 cs1 (0, 0) _ hp36 parUnd rfl HSZ1.out ?_; simp only [Act.put])
 refine (HC1.out w6 (Below.refl _ _)).mono ?_
 rintro e w7 ⟨rfl, hb7⟩
 have hl7 := bStep hl6 hb7; have b97 := hbt.belowAll hb7
 have HE7 : Hid (Es w7 (.slice o4 m k4) m f) := HE6.out.below hb7
 clear hp36 hp76 b56 c5 HC1 hbt hb7 hl6 HE6
 have hbe : Below w7.heap.size w7 (w7.alloc (qA Q.1 Q.2.1 Q.2.2)) := bAlloc (Below.refl _ _) _
 have hbt : Pt (w7.alloc (qA Q.1 Q.2.1 Q.2.2)) w7.heap.size Q.1 Q.2.1 Q.2.2 := Pt.newAt _ _ _ _ _ rfl
 go_upto_region 9 with fail
 obtain ⟨N11, e11⟩ : ∃ N, N = w7.heap.size := ⟨_, rfl⟩
 obtain ⟨w8, hw8⟩ : ∃ z : World, z = w7.alloc (qA Q.1 Q.2.1 Q.2.2) := ⟨_, rfl⟩
 rw [← hw8] at hbe
 rw [← hw8, ← e11] at hbt
 rw [← hw8, ← e11]
 have hl8 := bStep hl7 hbe; have b98 := b97.belowAll hbe
 have HE8 : Hid (Es w8 (.slice o4 m k4) m f) := HE7.out.below hbe
 obtain ⟨hp38, hp78, b58⟩ := HPK.out w8 hl8
 clear hw8 e11 hbe hl7 b97 HE7 b58
 obtain ⟨q0, q1, q2, q3, q4, q5, q6, q7, q8, qf⟩ := b98.cells
 obtain ⟨r0, r1, r2, r3, r4, r5, r6, r7, r8, rf⟩ := hbt.cells
 have heq := HEQ.out
 have HSA : Hid (∀ w', Below w8.heap.size w8 w' → Calls Tryz.prog 10 #[.agg cs2, .agg cs1] w' fun e w'' => e = .returned (.bool true) ∧ Below w'.heap.size w' w'') := fun w' hb => by
  rw [← HE1.out, ← HE2.out]
  exact samePar_self C K n (.slice o2 n k2) (.slice oa n cn) G A B (by have := HMM.out.1; omega) HMM.out.2.1 HMM.out.2.2.1 HMM.out.2.2.2.1 w' (HR3.out.below (bStep hl8 hb)) ((HR.out.below hbw3).below (bStep hl8 hb))
 clear b98 hbt
 go_wp2_with (first
  | (refine loadG rfl _ rfl N7 rfl cs2 hp78 HSZ2.out ?_; simp only [Act.put])
  | (refine loadG rfl _ rfl N3 rfl cs1 hp38 HSZ1.out ?_; simp only [Act.put]))
 clear q0 q1 q2 q3 q4 q5 q6 q7 q8 qf r0 r1 r2 r3 r4 r5 r6 r7 r8 rf heq hp38 hp78
 refine (HSA.out w8 (Below.refl _ _)).mono ?_
 rintro e w9 ⟨rfl, hb9⟩
 have hl9 := bStep hl8 hb9
 clear HSA
 go_wp2_with fail
 refine (sameE_self _ _ m f (by have := HMM.out.1; omega) HMM.out.2.2.2.2 w9 (HE8.out.below hb9) ((HF.out.below hbw3).below hl9)).mono ?_
 rintro e w10 ⟨rfl, hb10⟩
 have HFIN : Hid (Below w.heap.size w w10) := bStep hbw3 (bStep hl9 hb10)
 clear hl9 hb9 hb10 hl8
 go_wp2
 go_ret
 exact ⟨rfl, HFIN.out⟩
set_option maxRecDepth 20000 in
theorem pcommits_n (C K : Int) (n cn m cm b : Nat) (oa ob : Option Addr) (A B : Nat × Nat × Bool) (hn : 100 < n) (w : World) (hg : GlobC w) :
  Calls Tryz.prog 4 #[parV C K (.slice oa n cn) A B, .slice ob m cm, .agg #[.int .u64 (limb 0 b), .int .u64 (limb 1 b), .int .u64 (limb 2 b), .int .u64 (limb 3 b)]] w fun e w' => e = .returned (.bool true) ∧ Below w.heap.size w w' := by
 have HG : Hid (GlobC w) := hg
 have hn100 : (100 : Int) < (n : Int) := by omega
 unfold parV
 obtain ⟨w0, hw0⟩ : ∃ z : World, z = (w.alloc (pA C K (.slice oa n cn) A B)).alloc (.cells #[.int .u64 (limb 0 b), .int .u64 (limb 1 b), .int .u64 (limb 2 b), .int .u64 (limb 3 b)] 25) := ⟨_, rfl⟩
 have hs1 : (w.alloc (pA C K (.slice oa n cn) A B)).heap.size = w.heap.size + 1 := Array.size_push ..
 have hb0 : Below w.heap.size w w0 := by rw [hw0]; exact bAlloc (bAlloc (Below.refl _ _) _) _
 obtain ⟨N3, e3⟩ : ∃ N, N = w.heap.size := ⟨_, rfl⟩
 obtain ⟨N5, e5⟩ : ∃ N, N = N3 + 1 := ⟨_, rfl⟩
 have p30 : Par w0 N3 C K (.slice oa n cn) A B := by rw [hw0]; exact (Par.newAt _ _ _ _ _ _ _ e3).belowAll (bAlloc (Below.refl _ _) _)
 have b50 : Blk w0 25 N5 (fun i => limb i b) := by rw [hw0]; exact Blk.newAt _ _ _ (fun i => limb i b) (by omega)
 clear hg
 go_enter Tryz.func4, Tryz.ntmps4
 go_upto_region 1 with fail
 rw [← hw0, ← e3, ← e5]
 clear hw0 e3 e5 hs1
 go_wp2_with fail
 refine (alive9_any w0 (HG.out.below hb0)).mono ?_
 rintro e w1 ⟨rfl, hb1⟩
 have p31 := p30.belowAll hb1; have b51 := b50.belowAll hb1; have hbw1 := bStep hb0 hb1
 have q0 := p31.c0; have q2 := p31.c2
 clear p30 p31 hb0 hb1 b50 b51
 go_wp2
 go_ret
 exact ⟨rfl, hbw1⟩
set_option maxRecDepth 20000 in
theorem pcommits_m (C K : Int) (n cn m cm b : Nat) (oa ob : Option Addr) (A B : Nat × Nat × Bool) (hn : n ≤ 100) (hm : 100 < m) (w : World) (hg : GlobC w) :
  Calls Tryz.prog 4 #[parV C K (.slice oa n cn) A B, .slice ob m cm, .agg #[.int .u64 (limb 0 b), .int .u64 (limb 1 b), .int .u64 (limb 2 b), .int .u64 (limb 3 b)]] w fun e w' => e = .returned (.bool true) ∧ Below w.heap.size w w' := by
 have HG : Hid (GlobC w) := hg
 have hn100 : ¬ (100 : Int) < (n : Int) := by omega
 have hm100 : (100 : Int) < (m : Int) := by omega
 unfold parV
 obtain ⟨w0, hw0⟩ : ∃ z : World, z = (w.alloc (pA C K (.slice oa n cn) A B)).alloc (.cells #[.int .u64 (limb 0 b), .int .u64 (limb 1 b), .int .u64 (limb 2 b), .int .u64 (limb 3 b)] 25) := ⟨_, rfl⟩
 have hs1 : (w.alloc (pA C K (.slice oa n cn) A B)).heap.size = w.heap.size + 1 := Array.size_push ..
 have hb0 : Below w.heap.size w w0 := by rw [hw0]; exact bAlloc (bAlloc (Below.refl _ _) _) _
 obtain ⟨N3, e3⟩ : ∃ N, N = w.heap.size := ⟨_, rfl⟩
 obtain ⟨N5, e5⟩ : ∃ N, N = N3 + 1 := ⟨_, rfl⟩
 have p30 : Par w0 N3 C K (.slice oa n cn) A B := by rw [hw0]; exact (Par.newAt _ _ _ _ _ _ _ e3).belowAll (bAlloc (Below.refl _ _) _)
 have b50 : Blk w0 25 N5 (fun i => limb i b) := by rw [hw0]; exact Blk.newAt _ _ _ (fun i => limb i b) (by omega)
 clear hg
 go_enter Tryz.func4, Tryz.ntmps4
 go_upto_region 1 with fail
 rw [← hw0, ← e3, ← e5]
 clear hw0 e3 e5 hs1
 go_wp2_with fail
 refine (alive9_any w0 (HG.out.below hb0)).mono ?_
 rintro e w1 ⟨rfl, hb1⟩
 have p31 := p30.belowAll hb1; have b51 := b50.belowAll hb1; have hbw1 := bStep hb0 hb1
 have q0 := p31.c0; have q2 := p31.c2
 clear p30 p31 hb0 hb1 b50 b51
 go_wp2
 go_ret
 exact ⟨rfl, hbw1⟩
set_option maxRecDepth 20000 in
theorem pcommits_2 (C K : Int) (n cn m cm b : Nat) (oa ob : Option Addr) (A B : Nat × Nat × Bool) (hn : n ≤ 100) (hm : m ≤ 100) (hC : C = 2) (w : World) (hg : GlobC w) :
  Calls Tryz.prog 4 #[parV C K (.slice oa n cn) A B, .slice ob m cm, .agg #[.int .u64 (limb 0 b), .int .u64 (limb 1 b), .int .u64 (limb 2 b), .int .u64 (limb 3 b)]] w fun e w' => e = .returned (.bool true) ∧ Below w.heap.size w w' := by
 have HG : Hid (GlobC w) := hg
 have hn100 : ¬ (100 : Int) < (n : Int) := by omega
 have hm100 : ¬ (100 : Int) < (m : Int) := by omega
 subst hC
 unfold parV
 obtain ⟨w0, hw0⟩ : ∃ z : World, z = (w.alloc (pA 2 K (.slice oa n cn) A B)).alloc (.cells #[.int .u64 (limb 0 b), .int .u64 (limb 1 b), .int .u64 (limb 2 b), .int .u64 (limb 3 b)] 25) := ⟨_, rfl⟩
 have hs1 : (w.alloc (pA 2 K (.slice oa n cn) A B)).heap.size = w.heap.size + 1 := Array.size_push ..
 have hb0 : Below w.heap.size w w0 := by rw [hw0]; exact bAlloc (bAlloc (Below.refl _ _) _) _
 obtain ⟨N3, e3⟩ : ∃ N, N = w.heap.size := ⟨_, rfl⟩
 obtain ⟨N5, e5⟩ : ∃ N, N = N3 + 1 := ⟨_, rfl⟩
 have p30 : Par w0 N3 2 K (.slice oa n cn) A B := by rw [hw0]; exact (Par.newAt _ _ _ _ _ _ _ e3).belowAll (bAlloc (Below.refl _ _) _)
 have b50 : Blk w0 25 N5 (fun i => limb i b) := by rw [hw0]; exact Blk.newAt _ _ _ (fun i => limb i b) (by omega)
 clear hg
 go_enter Tryz.func4, Tryz.ntmps4
 go_upto_region 1 with fail
 rw [← hw0, ← e3, ← e5]
 clear hw0 e3 e5 hs1
 go_wp2_with fail
 refine (alive9_any w0 (HG.out.below hb0)).mono ?_
 rintro e w1 ⟨rfl, hb1⟩
 have p31 := p30.belowAll hb1; have b51 := b50.belowAll hb1; have hbw1 := bStep hb0 hb1
 have q0 := p31.c0; have q2 := p31.c2
 clear p30 p31 hb0 hb1 b50 b51
 go_wp2
 go_ret
 exact ⟨rfl, hbw1⟩
set_option maxRecDepth 20000 in
theorem pcommits_3 (C K : Int) (n cn m cm b : Nat) (oa ob : Option Addr) (A B : Nat × Nat × Bool) (hn : n ≤ 100) (hm : m ≤ 100) (hC : C = 3) (w : World) (hg : GlobC w) :
  Calls Tryz.prog 4 #[parV C K (.slice oa n cn) A B, .slice ob m cm, .agg #[.int .u64 (limb 0 b), .int .u64 (limb 1 b), .int .u64 (limb 2 b), .int .u64 (limb 3 b)]] w fun e w' => e = .returned (.bool true) ∧ Below w.heap.size w w' := by
 have HG : Hid (GlobC w) := hg
 have hn100 : ¬ (100 : Int) < (n : Int) := by omega
 have hm100 : ¬ (100 : Int) < (m : Int) := by omega
 subst hC
 unfold parV
 obtain ⟨w0, hw0⟩ : ∃ z : World, z = (w.alloc (pA 3 K (.slice oa n cn) A B)).alloc (.cells #[.int .u64 (limb 0 b), .int .u64 (limb 1 b), .int .u64 (limb 2 b), .int .u64 (limb 3 b)] 25) := ⟨_, rfl⟩
 have hs1 : (w.alloc (pA 3 K (.slice oa n cn) A B)).heap.size = w.heap.size + 1 := Array.size_push ..
 have hb0 : Below w.heap.size w w0 := by rw [hw0]; exact bAlloc (bAlloc (Below.refl _ _) _) _
 obtain ⟨N3, e3⟩ : ∃ N, N = w.heap.size := ⟨_, rfl⟩
 obtain ⟨N5, e5⟩ : ∃ N, N = N3 + 1 := ⟨_, rfl⟩
 have p30 : Par w0 N3 3 K (.slice oa n cn) A B := by rw [hw0]; exact (Par.newAt _ _ _ _ _ _ _ e3).belowAll (bAlloc (Below.refl _ _) _)
 have b50 : Blk w0 25 N5 (fun i => limb i b) := by rw [hw0]; exact Blk.newAt _ _ _ (fun i => limb i b) (by omega)
 clear hg
 go_enter Tryz.func4, Tryz.ntmps4
 go_upto_region 1 with fail
 rw [← hw0, ← e3, ← e5]
 clear hw0 e3 e5 hs1
 go_wp2_with fail
 refine (alive9_any w0 (HG.out.below hb0)).mono ?_
 rintro e w1 ⟨rfl, hb1⟩
 have p31 := p30.belowAll hb1; have b51 := b50.belowAll hb1; have hbw1 := bStep hb0 hb1
 have q0 := p31.c0; have q2 := p31.c2
 clear p30 p31 hb0 hb1 b50 b51
 go_wp2
 go_ret
 exact ⟨rfl, hbw1⟩
theorem okB_all {c k n : Nat} {G : Nat → Nat × Nat × Bool} {A B : Nat × Nat × Bool} (h : okB c k n G A B = true) : n = 2 ^ k ∧ (∀ i, i < n → gen c (G i)) ∧ gen c A := by
 unfold okB at h
 rw [Bool.and_eq_true, Bool.and_eq_true, Bool.and_eq_true] at h
 exact ⟨of_decide_eq_true h.1, of_decide_eq_true h.2.1, of_decide_eq_true h.2.2.1⟩
theorem pcommits_walk (C K : Int) (g : Value) (n : Nat) (G : Nat → Nat × Nat × Bool) (A B : Nat × Nat × Bool) (m : Nat) (v : Value) (f : Nat → Nat) (b : Nat) (hM : ∀ i, i < n → (G i).1 < mM ∧ (G i).2.1 < mM) (hA : A.1 < mM ∧ A.2.1 < mM) (hB : B.1 < mM ∧ B.2.1 < mM) (hf : ∀ i, i < m → f i < mM) (hb : b < mM) (w : World) (hg : GlobC w) (hR : Rs w g 9 n (fun i => pC (G i))) (hF : Es w v m f) :
  Calls Tryz.prog 4 #[parV C K g A B, v, .agg #[.int .u64 (limb 0 b), .int .u64 (limb 1 b), .int .u64 (limb 2 b), .int .u64 (limb 3 b)]] w fun e w' => e = .returned (.bool true) ∧ Below w.heap.size w w' := by
 obtain ⟨oa, cn, rfl⟩ := hR.shape
 obtain ⟨ob, cm, rfl⟩ := hF.shape
 rcases Nat.lt_or_ge 100 n with hn | hn
 ·exact pcommits_n C K n cn m cm b oa ob A B hn w hg
 rcases Nat.lt_or_ge 100 m with hm | hm
 ·exact pcommits_m C K n cn m cm b oa ob A B hn hm w hg
 by_cases h2 : C = 2
 ·exact pcommits_2 C K n cn m cm b oa ob A B hn hm h2 w hg
 by_cases h3 : C = 3
 ·exact pcommits_3 C K n cn m cm b oa ob A B hn hm h3 w hg
 have hz : ((0, 0, false) : Nat × Nat × Bool).1 < mM ∧ ((0, 0, false) : Nat × Nat × Bool).2.1 < mM := ⟨by decide, by decide⟩
 by_cases hc : C < 0 ∨ 4 ≤ C
 ·exact pcommits_in 40 C K (0, 0, false) n cn m cm b oa ob G A B f hn hm h2 h3 hz hM hA hB hf w hg hR hF (fun w' o o' k k' _ _ _ => commit_bad C K 40 _ _ A B b (by decide) w' (fun w'' _ => chk_c C K _ A B hc w'') ⟨_, _, _, rfl⟩) (fun w' o o' k k' _ _ => rcommit_bad C K 40 _ _ A B b (by decide) w' (fun w'' _ => rchk_c C K _ A B hc w'') ⟨_, _, _, rfl⟩)
 ·obtain ⟨c, rfl⟩ : ∃ c : Nat, C = c := ⟨C.toNat, by omega⟩
  have hc4 : c < 4 := by omega
  by_cases hk : K < 0 ∨ 5 < K
  ·exact pcommits_in 60 c K (0, 0, false) n cn m cm b oa ob G A B f hn hm h2 h3 hz hM hA hB hf w hg hR hF (fun w' o o' k k' hg' _ _ => commit_bad c K 60 _ _ A B b (by decide) w' (fun w'' hb => chk_k c K _ A B hc4 hk w'' (hg'.below hb)) ⟨_, _, _, rfl⟩) (fun w' o o' k k' _ _ => rcommit_bad c K 60 _ _ A B b (by decide) w' (fun w'' _ => rchk_k c K _ A B hc4 hk w'') ⟨_, _, _, rfl⟩)
  ·obtain ⟨k, rfl⟩ : ∃ k : Nat, K = k := ⟨K.toNat, by omega⟩
   have hk5 : k ≤ 5 := by omega
   have CKI := fun (w' : World) (o : Option Addr) (q : Nat) (hg' : GlobC w') (hr : Rs w' (.slice o n q) 9 n (fun i => pC (G i))) => chk_in c k n q o G A B hc4 hk5 (by omega) hM hA hB w' hg' hr
   have RCI := fun (w' : World) (o : Option Addr) (q : Nat) (hr : Rs w' (.slice o n q) 9 n (fun i => pC (G i))) => rchk_in c k n q o G A B hc4 hk5 (by omega) hM hA hB w' hr
   cases hok : okB c k n G A B with
   | false =>
    rw [hok] at CKI RCI
    exact pcommits_in 90 c k (0, 0, false) n cn m cm b oa ob G A B f hn hm h2 h3 hz hM hA hB hf w hg hR hF (fun w' o o' q q' hg' hr _ => commit_bad c k 90 _ _ A B b (by decide) w' (fun w'' hb => CKI w'' o q (hg'.below hb) (hr.below hb)) ⟨_, _, _, rfl⟩) (fun w' o o' q q' hr _ => rcommit_bad c k 90 _ _ A B b (by decide) w' (fun w'' hb => RCI w'' o q (hr.below hb)) ⟨_, _, _, rfl⟩)
   | true =>
    rw [hok] at CKI RCI
    obtain ⟨e1, hgG, hgA⟩ := okB_all hok
    rcases Nat.lt_or_ge n m with hmn | hmn
    ·exact pcommits_in 50 c k (0, 0, false) n cn m cm b oa ob G A B f hn hm h2 h3 hz hM hA hB hf w hg hR hF (fun w' o o' q q' hg' hr _ => commit_long c k n q m q' o o' A B b hmn w' (fun w'' hb => CKI w'' o q (hg'.below hb) (hr.below hb))) (fun w' o o' q q' hr _ => rcommit_long c k n q m q' o o' A B b hmn w' (fun w'' hb => RCI w'' o q (hr.below hb)))
    ·obtain ⟨Q, eQ⟩ : ∃ Q, Q = tot c (fun i => (cmT b A f G i).1 % modN (xc c)) (fun i => (cmT b A f G i).2) (m + 1) := ⟨_, rfl⟩
     have hQ : onT c Q := by
      rw [eQ]
      refine tot_on _ (fun i hi => ?_)
      unfold cmT
      split
      ·exact hgA.1
      ·exact (hgG _ (by omega)).1
     have n0 : n ≠ 0 := by rw [e1]; exact Nat.ne_of_gt (Nat.pow_pos (by decide))
     refine pcommits_in 0 c k Q n cn m cm b oa ob G A B f hn hm h2 h3 (onT_lt hQ) hM hA hB hf w hg hR hF (fun w' o o' q q' hg' hr hF' => ?_) (fun w' o o' q q' hr hF' => ?_)
     ·obtain ⟨ab, ao, rfl⟩ : ∃ ab ao, o = some ⟨ab, ao, none⟩ := by
       rcases hr with ⟨_, h0⟩ | ⟨ab, ao, _, hv, _⟩
       ·exact absurd h0 n0
       ·cases hv; exact ⟨ab, ao, rfl⟩
      refine (commit_ok c k n q ab ao m q' b o' G A B f hc4 hk5 hn hM hA hB hb hf hmn hok hgA hgG w' hg' hr hF').mono ?_
      rintro e w'' ⟨⟨x, y, i, rfl, hq⟩, h⟩
      rw [← eQ] at hq
      subst hq
      exact ⟨rfl, h⟩
     ·obtain ⟨ab, ao, rfl⟩ : ∃ ab ao, o = some ⟨ab, ao, none⟩ := by
       rcases hr with ⟨_, h0⟩ | ⟨ab, ao, _, hv, _⟩
       ·exact absurd h0 n0
       ·cases hv; exact ⟨ab, ao, rfl⟩
      refine (rcommit_ok c n q ab ao m q' b k o' A B Q hmn w' (fun w'' hb => RCI w'' _ q (hr.below hb)) (fun w'' hb' => ?_)).mono ?_
      ·rw [eQ]
       exact of_ok c n q ab ao m q' b o' G A B f k hc4 hn hM hA hb hf hmn hgA hgG w'' (hr.below hb') (hF'.below hb')
      ·rintro e w'' ⟨⟨x, y, i, rfl, hq⟩, h⟩
       subst hq
       exact ⟨rfl, h⟩
end Go.Proofs.YtdeijnlbencfdaaGreatDoor
