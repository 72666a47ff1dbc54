/- expr.Values. -/
import Derived.Test.YtgldibfpidmfhaaGreatDoorUXV3
import Derived.Test.YtgldibfpidmfhaaGreatDoorUCQ2
namespace Go.Proofs.YtgldibfpidmfhaaGreatDoor
open Go.RowKit
open Go.Maps
/-- The value of the node T, where f are the values of those ahead. -/
def vstp (s : Nat) (M : Int × Int × Int → Option Nat) (T : Int × Int × Int × Nat) (f : Nat → Nat) : Nat :=
  if T.1 = 1 then addP s T.2.2.2 0 else if T.1 = 2 ∨ T.1 = 3 ∨ T.1 = 4 then addP s ((M (T.1, T.2.1, T.2.2.1)).getD 0) 0 else if T.1 = 5 then subP s 0 (f T.2.1.toNat)
  else if T.1 = 6 then addP s (f T.2.1.toNat) (f T.2.2.1.toNat) else if T.1 = 7 then mulP s (f T.2.1.toNat) (f T.2.2.1.toNat) else mulP s T.2.2.2 (f T.2.1.toNat)
theorem vstp_lt (s : Nat) (M : Int × Int × Int → Option Nat) (T : Int × Int × Int × Nat) (f : Nat → Nat) : vstp s M T f < 115792089237316195423570985008687907853269984665640564039457584007913129639936 := by
  have hm := modN_lt s
  have hp : 0 < modN s := modN_pos s
  unfold vstp addP subP mulP
  repeat' split
  all_goals exact Nat.lt_trans (Nat.mod_lt _ hp) hm
/-- The values of the first k nodes; noughts behind them. -/
def vls (s : Nat) (M : Int × Int × Int → Option Nat) (T : Nat → Int × Int × Int × Nat) : Nat → Nat → Nat
  | 0, _ => 0
  | k + 1, i => if i = k then vstp s M (T k) (vls s M T k) else vls s M T k i
theorem vls_lt (s : Nat) (M : Int × Int × Int → Option Nat) (T : Nat → Int × Int × Int × Nat) : ∀ k i, vls s M T k i < 115792089237316195423570985008687907853269984665640564039457584007913129639936
  | 0, i => by show 0 < _; decide
  | k + 1, i => by
    show (if i = k then vstp s M (T k) (vls s M T k) else vls s M T k i) < _
    split
    · exact vstp_lt s M (T k) _
    · exact vls_lt s M T k i
/-- Has each query of the nodes a number? -/
def okV (n : Nat) (T : Nat → Int × Int × Int × Nat) (M : Int × Int × Int → Option Nat) : Bool := decide (∀ i, i < n → isQ (T i).1 = true → (M (qOf (T i))).isSome = true)
/-- Which error Values answers, of a sort that there is. -/
def valC (ord len ok : Bool) : Int := if ord = false then 110 else if len = false then 50 else if ok = false then 50 else 0
set_option maxHeartbeats 2000000 in
theorem val_op (s mb nm : Nat) (M : Int × Int × Int → Option Nat) (T : Int × Int × Int × Nat) (k : Nat) (h : okN T k = true) (hs : s < 4) (hV : T.2.2.2 < 115792089237316195423570985008687907853269984665640564039457584007913129639936) (hM : ∀ q, (M q).getD 0 < 115792089237316195423570985008687907853269984665640564039457584007913129639936) (hT : isQ T.1 = true → rng T.2.1 ∧ rng T.2.2.1) : ∃ (ty : TypeId) (pv : Value) (fn : FuncId) (rv : Value), opT T = .iface ty pv ∧ (∀ w, (method 340 ty pv "sigil/expr.value").run Tryz.prog w = .ok (fn, rv) w) ∧ (∀ w, (nilAhead 340 ty pv "sigil/expr.value").run Tryz.prog w = .ok (some false) w) ∧ (∀ w x y, (callFunc fn #[rv, x, y]).run Tryz.prog w = .ok (.enter fn #[rv, x, y]) w) ∧
    ∀ (w : World) (G c : Nat) (f : Nat → Nat), (∀ i, i < k → f i < 115792089237316195423570985008687907853269984665640564039457584007913129639936) → Glob w → MapE w mb nm M → (k ≤ c ∧ G < w.heap.size) → (∀ i, i < k → ∀ j, j < 4 → w.cell? ⟨G, 0 + i * 4 + j, none⟩ = some (.int .u64 ((limb j (f i) : Nat) : Int))) → Calls Tryz.prog fn #[rv, .agg #[.int .i64 (s : Int), .map (some mb)], .slice (some ⟨G, 0, none⟩) k c] w fun e w' => e = .returned (.agg #[.int .u64 ((limb 0 (vstp s M T f) : Nat) : Int), .int .u64 ((limb 1 (vstp s M T f) : Nat) : Int), .int .u64 ((limb 2 (vstp s M T f) : Nat) : Int), .int .u64 ((limb 3 (vstp s M T f) : Nat) : Int)]) ∧ Below w.heap.size w w' := by
  obtain ⟨O, A, B, V⟩ := T
  unfold okN at h
  rw [Bool.and_eq_true] at h
  have hO : 1 ≤ O ∧ O ≤ 8 := of_decide_eq_true h.1
  have hA : ∀ i, i < uN O → 0 ≤ uF A B i ∧ uF A B i < (k : Int) := of_decide_eq_true h.2
  have hV' : V < 115792089237316195423570985008687907853269984665640564039457584007913129639936 := hV
  have hc : O = 1 ∨ O = 2 ∨ O = 3 ∨ O = 4 ∨ O = 5 ∨ O = 6 ∨ O = 7 ∨ O = 8 := by omega
  rcases hc with rfl | rfl | rfl | rfl | rfl | rfl | rfl | rfl
  · exact ⟨_, _, _, _, rfl, fun w => by kernel_rfl, fun w => by kernel_rfl, fun w x y => by kernel_rfl, fun w G c f _ hg _ _ _ => val_const s mb V _ hs hV' w hg⟩
  · have hr := hT rfl
    exact ⟨_, _, _, _, rfl, fun w => by kernel_rfl, fun w => by kernel_rfl, fun w x y => by kernel_rfl, fun w G c f _ hg hm _ _ => val_query s mb nm M 2 A B _ hs ⟨⟨by show (-9223372036854775808 : Int) ≤ 2; decide, by show (2 : Int) ≤ 9223372036854775807; decide⟩, hr.1, hr.2⟩ (hM _) w hg hm⟩
  · have hr := hT rfl
    exact ⟨_, _, _, _, rfl, fun w => by kernel_rfl, fun w => by kernel_rfl, fun w x y => by kernel_rfl, fun w G c f _ hg hm _ _ => val_query s mb nm M 3 A B _ hs ⟨⟨by show (-9223372036854775808 : Int) ≤ 3; decide, by show (3 : Int) ≤ 9223372036854775807; decide⟩, hr.1, hr.2⟩ (hM _) w hg hm⟩
  · have hr := hT rfl
    exact ⟨_, _, _, _, rfl, fun w => by kernel_rfl, fun w => by kernel_rfl, fun w x y => by kernel_rfl, fun w G c f _ hg hm _ _ => val_query s mb nm M 4 A B _ hs ⟨⟨by show (-9223372036854775808 : Int) ≤ 4; decide, by show (4 : Int) ≤ 9223372036854775807; decide⟩, hr.1, hr.2⟩ (hM _) w hg hm⟩
  · have ha : 0 ≤ A ∧ A < (k : Int) := hA 0 (by decide)
    obtain ⟨a, rfl⟩ : ∃ a : Nat, A = a := ⟨A.toNat, by omega⟩
    exact ⟨_, _, _, _, rfl, fun w => by kernel_rfl, fun w => by kernel_rfl, fun w x y => by kernel_rfl, fun w G c f hf hg _ hk he => val_neg s mb a k c G 0 f hs (by omega) hf w hg hk he⟩
  · have ha : 0 ≤ A ∧ A < (k : Int) := hA 0 (by decide)
    have hb : 0 ≤ B ∧ B < (k : Int) := hA 1 (by decide)
    obtain ⟨a, rfl⟩ : ∃ a : Nat, A = a := ⟨A.toNat, by omega⟩
    obtain ⟨b, rfl⟩ : ∃ b : Nat, B = b := ⟨B.toNat, by omega⟩
    exact ⟨_, _, _, _, rfl, fun w => by kernel_rfl, fun w => by kernel_rfl, fun w x y => by kernel_rfl, fun w G c f hf hg _ hk he => val_sum s mb a b k c G 0 f hs (by omega) (by omega) hf w hg hk he⟩
  · have ha : 0 ≤ A ∧ A < (k : Int) := hA 0 (by decide)
    have hb : 0 ≤ B ∧ B < (k : Int) := hA 1 (by decide)
    obtain ⟨a, rfl⟩ : ∃ a : Nat, A = a := ⟨A.toNat, by omega⟩
    obtain ⟨b, rfl⟩ : ∃ b : Nat, B = b := ⟨B.toNat, by omega⟩
    exact ⟨_, _, _, _, rfl, fun w => by kernel_rfl, fun w => by kernel_rfl, fun w x y => by kernel_rfl, fun w G c f hf hg _ hk he => val_prod s mb a b k c G 0 f hs (by omega) (by omega) hf w hg hk he⟩
  · have ha : 0 ≤ A ∧ A < (k : Int) := hA 0 (by decide)
    obtain ⟨a, rfl⟩ : ∃ a : Nat, A = a := ⟨A.toNat, by omega⟩
    exact ⟨_, _, _, _, rfl, fun w => by kernel_rfl, fun w => by kernel_rfl, fun w x y => by kernel_rfl, fun w G c f hf hg _ hk he => val_mult s mb a k c G 0 f V hs (by omega) hf hV' w hg hk he⟩
theorem made_zeroV (n t : Nat) (ht : t < n * 4) : (madeCells #[.int .u64 0, .int .u64 0, .int .u64 0, .int .u64 0] (n * 4)).toList[t]? = some (.int .u64 0) := by
  rw [Array.getElem?_toList]
  unfold madeCells
  rw [Array.getElem?_map, Array.getElem?_range, if_pos ht]
  have h4 : t % 4 = 0 ∨ t % 4 = 1 ∨ t % 4 = 2 ∨ t % 4 = 3 := by omega
  show some _ = _
  dsimp only
  rcases h4 with h | h | h | h
  all_goals (rw [show (#[Value.int .u64 0, .int .u64 0, .int .u64 0, .int .u64 0] : Array Value).size = 4 from rfl, h]; rfl)
theorem fsM_lt (Q : Nat → Int × Int × Int) (A : Nat → Nat) : ∀ k, (∀ i, i < k → A i < 115792089237316195423570985008687907853269984665640564039457584007913129639936) → ∀ q, (fsM Q A k q).getD 0 < 115792089237316195423570985008687907853269984665640564039457584007913129639936
  | 0, _, q => by show 0 < _; decide
  | k + 1, h, q => by
    show ((if (fsM Q A k q).isSome = true then fsM Q A k q else if Q k = q then some (A k) else none) : Option Nat).getD 0 < _
    split
    · exact fsM_lt Q A k (fun i hi => h i (by omega)) q
    · split
      · exact h k (by omega)
      · show 0 < _; decide
/-- What Values answers. -/
def ValP (e : Ending) (w w' : World) (s n : Nat) (T : Nat → Int × Int × Int × Nat) (M : Int × Int × Int → Option Nat) (c : Int) : Prop :=
  (c = 0 ∧ ∃ G, e = .returned (.tuple #[.slice (some ⟨G, 0, none⟩) n n, .int .i64 0]) ∧ w.heap.size ≤ G ∧ BlkR w' 50 G 4 n (fun i j => .int .u64 ((limb j (vls s M T n i) : Nat) : Int))) ∨ (c ≠ 0 ∧ e = .returned (.tuple #[.slice none 0 0, .int .i64 c]))
set_option maxHeartbeats 16000000 in
set_option maxRecDepth 100000 in
theorem values_in (s n cn nq cq na ca : Nat) (on oq oa : Option Addr) (T : Nat → Int × Int × Int × Nat) (Q : Nat → Int × Int × Int) (A : Nat → Nat) (hs : s < 4) (hn : n ≤ 1000000) (hnq : nq ≤ 1000000) (hT : ∀ i, i < n → (T i).2.2.2 < 115792089237316195423570985008687907853269984665640564039457584007913129639936 ∧ (isQ (T i).1 = true → rng (T i).2.1 ∧ rng (T i).2.2.1)) (hQ : ∀ i, i < nq → rngQ (Q i)) (hA : ∀ i, i < na → A i < 115792089237316195423570985008687907853269984665640564039457584007913129639936) (w : World) (hg : Glob w) (hv : Rs w (.slice on n cn) 7 n (fun i => nC (T i))) (hq : Qs w (.slice oq nq cq) nq Q) (ha : Es w (.slice oa na ca) na A) :
    Calls Tryz.prog 65 #[.int .i64 (s : Int), .slice on n cn, .slice oq nq cq, .slice oa na ca] w fun e w' => ValP e w w' s n T (fsM Q A nq) (valC (ordB n T) (decide (na = nq)) (okV n T (fsM Q A nq))) ∧ Below w.heap.size w w' := by
  obtain ⟨i0, hi0, hz0, hz1, hz2⟩ := elemInfo
  have HI : Hid (Tryz.prog.info? 50 = some i0) := hi0
  have HZ : Hid (i0.zero = some (.agg #[.int .u64 0, .int .u64 0, .int .u64 0, .int .u64 0]) ∧ i0.size = 4 ∧ i0.bytes = 32) := ⟨hz0, hz1, hz2⟩
  obtain ⟨m, em⟩ : ∃ m, m = modN s := ⟨_, rfl⟩
  have HM : Hid (Calls _ _ _ _ _) := fModulus_any s hs w hg
  rw [← em] at HM
  have HORD : Hid (∀ w', Below w.heap.size w w' → Calls Tryz.prog 91 #[.slice on n cn] w' fun e w2 => ((ordB n T = true ∧ ∃ L, e = .returned (.tuple #[.slice (some ⟨L, 0, none⟩) n n, .bool true]) ∧ w'.heap.size ≤ L ∧ BlkR w2 147 L 1 n (fun i _ => opT (T i))) ∨ (ordB n T = false ∧ e = .returned (.tuple #[.slice none 0 0, .bool false]))) ∧ Below w'.heap.size w' w2) := fun w' h => ordered_any n cn on T hn w' (hv.below h)
  have HQW : Hid (∀ w', Below w.heap.size w w' → Qs w' (.slice oq nq cq) nq Q) := fun w' h => hq.below h
  have HAW : Hid (∀ w', Below w.heap.size w w' → Es w' (.slice oa na ca) na A) := fun w' h => ha.below h
  have HGW : Hid (∀ w', Below w.heap.size w w' → Glob w') := fun w' h => hg.below h
  have HTT : Hid (∀ i, i < n → (T i).2.2.2 < 115792089237316195423570985008687907853269984665640564039457584007913129639936 ∧ (isQ (T i).1 = true → rng (T i).2.1 ∧ rng (T i).2.2.1)) := hT
  have HQQ : Hid (∀ i, i < nq → rngQ (Q i)) := hQ
  have HAA : Hid (∀ i, i < na → A i < 115792089237316195423570985008687907853269984665640564039457584007913129639936) := hA
  have HSS : Hid (s < 4) := hs
  obtain ⟨M, eM⟩ : ∃ M, M = fsM Q A nq := ⟨_, rfl⟩
  rw [← eM]
  have HEM : Hid (M = fsM Q A nq) := eM
  clear hi0 hz0 hz1 hz2 em hg hv hq ha hT hQ hA hs eM
  go_enter Tryz.func65, Tryz.ntmps65
  go_wp2_with fail
  refine Calls.mono HM.out ?_
  rintro e w1 ⟨rfl, hb1⟩
  obtain ⟨w2, ew2⟩ : ∃ x : World, x = w1.alloc (.cells #[.int .u64 ((limb 0 (m) : Nat) : Int), .int .u64 ((limb 1 (m) : Nat) : Int), .int .u64 ((limb 2 (m) : Nat) : Int), .int .u64 ((limb 3 (m) : Nat) : Int)] 50) := ⟨_, rfl⟩
  have ha2 : w1.alloc (.cells #[.int .u64 ((limb 0 (m) : Nat) : Int), .int .u64 ((limb 1 (m) : Nat) : Int), .int .u64 ((limb 2 (m) : Nat) : Int), .int .u64 ((limb 3 (m) : Nat) : Int)] 50) = w2 := ew2.symm
  have HB2 : Hid (Below w.heap.size w w2) := by rw [ew2]; exact bAlloc hb1 _
  clear hb1 ew2 HM
  go_upto_region 4 with fail
  clear ha2
  go_wp2_with fail
  refine (HORD.out w2 HB2.out).mono ?_
  rintro e w3 ⟨hh | hh, hb3⟩
  rotate_left
  · obtain ⟨ho, rfl⟩ := hh
    have HB3 : Hid (Below w.heap.size w w3) := bStep HB2.out hb3
    clear hb3
    go_wp2
    go_ret2
    refine ⟨Or.inr ⟨?_, ?_⟩, HB3.out⟩
    · rw [ho]; exact (show ¬ (110 : Int) = 0 by decide)
    · rw [ho]; rfl
  obtain ⟨ho, L, rfl, lL, bL⟩ := hh
  have HB3 : Hid (Below w.heap.size w w3) := bStep HB2.out hb3
  have HOR : Hid (ordB n T = true) := ho
  have ho' : ∀ i, i < n → okN (T i) i = true := of_decide_eq_true ho
  have HOK : Hid (∀ i, i < n → okN (T i) i = true) := ho'
  have HBL : Hid (BlkR w3 147 L 1 n (fun i _ => opT (T i))) := bL
  clear ho ho' hb3 lL bL HORD
  by_cases hlen : na = nq
  rotate_left
  · have hli : ¬ (na : Int) = (nq : Int) := by omega
    have HLN : Hid (decide (na = nq) = false) := decide_eq_false hlen
    clear hlen
    go_wp2
    go_ret2
    refine ⟨Or.inr ⟨?_, ?_⟩, HB3.out⟩
    · rw [HOR.out, HLN.out]; exact (show ¬ (50 : Int) = 0 by decide)
    · rw [HOR.out, HLN.out]; rfl
  subst hlen
  have HMM : Hid (∀ q, (M q).getD 0 < 115792089237316195423570985008687907853269984665640564039457584007913129639936) := by rw [HEM.out]; exact fsM_lt Q A na HAA.out
  have HSET : Hid (Calls Tryz.prog 92 #[.int .i64 (s : Int), .slice oq na cq, .slice oa na ca] w3 fun e w' => SetE e w3 w' (s : Int) na M ∧ Below w3.heap.size w3 w') := by rw [HEM.out]; exact setting_any (s : Int) na cq ca oq oa Q A hnq HQQ.out w3 (HQW.out w3 HB3.out) (HAW.out w3 HB3.out)
  clear HEM HAA HQQ HQW HAW
  go_wp2_with fail
  refine Calls.mono HSET.out ?_
  rintro e w4 ⟨⟨mb, rfl, lmb, hmp⟩, hb4⟩
  have HB4 : Hid (Below w.heap.size w w4) := bStep HB3.out hb4
  obtain ⟨b14, eb14⟩ : ∃ x, x = w4.heap.size := ⟨_, rfl⟩
  obtain ⟨w5, ew5⟩ : ∃ x : World, x = w4.alloc (.cells #[.int .i64 (s : Int), .map (some mb)] 159) := ⟨_, rfl⟩
  have ha5 : w4.alloc (.cells #[.int .i64 (s : Int), .map (some mb)] 159) = w5 := ew5.symm
  have hb14 : w4.heap.size = b14 := eb14.symm
  have hb5 : Below w4.heap.size w4 w5 := by rw [ew5]; exact bAlloc (Below.refl _ _) _
  have f5 : w5.heap[b14]? = some (.cells #[.int .i64 (s : Int), .map (some mb)] 159) := by rw [ew5, eb14]; show (w4.heap.push _)[w4.heap.size]? = _; simp
  have HB5 : Hid (Below w.heap.size w w5) := bStep HB4.out hb5
  have HF5 : Hid (∀ w', Below w5.heap.size w5 w' → w'.heap[b14]? = some (.cells #[.int .i64 (s : Int), .map (some mb)] 159) ∧ MapE w' mb na M) := fun w' h => ⟨(h.block b14 (Array.getElem?_eq_some_iff.1 f5).1).trans f5, (hmp.below hb5).below h⟩
  have HL5 : Hid (∀ w', Below w5.heap.size w5 w' → BlkR w' 147 L 1 n (fun i _ => opT (T i))) := fun w' h => ((HBL.out.belowAll hb4).belowAll hb5).belowAll h
  clear hmp hb4 eb14 ew5 hb5 f5 HSET lmb HBL
  go_upto_region 10 with fail
  clear ha5 hb14
  go_wp2_with (first
    | (at_make; refine wpList_make_full _ rfl _ _ 41 rfl w5.heap.size 50 i0 (.agg #[.int .u64 0, .int .u64 0, .int .u64 0, .int .u64 0]) 4 Tryz.underlying41 HI.out HZ.out.1 HZ.out.2.1 .i64 .i64 n n n rfl rfl rfl rfl ?c1 ?c2 (Nat.le_refl _) ?_)
    | go_in)
  case c1 => rw [HZ.out.2.2]; omega
  case c2 => unfold maxLen; omega
  intro w6 hown hgrow
  obtain ⟨G, eG⟩ : ∃ G, G = w5.heap.size := ⟨_, rfl⟩
  rw [← eG] at hown ⊢
  have lG : w5.heap.size ≤ G := by omega
  have bo : BlkR w6 50 G 4 n (fun i j => .int .u64 ((limb j (vls s M T 0 i) : Nat) : Int)) := (own_blkR (F := fun _ _ => .int .u64 0) hown (fun i hi j hj => made_zeroV n (i * 4 + j) (by omega))).1.congr (fun i _ j hj => by
    show Value.int .u64 ((limb j 0 : Nat) : Int) = _
    rw [limb_zero]; rfl)
  have hb6 : Below w5.heap.size w5 w6 := (Below.refl _ w5).grown hgrow (Nat.le_refl _) (fun j hj => by cases hj)
  have HB6 : Hid (Below w5.heap.size w5 w6) := hb6
  have HBO : Hid (BlkR w6 50 G 4 n (fun i j => .int .u64 ((limb j (vls s M T 0 i) : Nat) : Int))) := bo
  have HLG : Hid (w5.heap.size ≤ G) := lG
  clear hown hgrow eG bo hb6 lG
  go_wp2
  go_loopw [49] (fun iv wr => ∃ k : Nat, iv = .int .i64 (k : Int) ∧ k ≤ n ∧ Below w5.heap.size w5 wr ∧ Hid (BlkR wr 50 G 4 n (fun i j => .int .u64 ((limb j (vls s M T k i) : Nat) : Int)) ∧ ∀ i, i < k → isQ (T i).1 = true → (M (qOf (T i))).isSome = true)) (fun iv _ => n - (intOf iv).toNat)
  case atStart => exact ⟨0, rfl, Nat.zero_le _, HB6.out, ⟨HBO.out, fun i hi => by omega⟩⟩
  case round =>
    obtain ⟨k, rfl, hk, hbr, HR⟩ := hrel
    clear HB6 HBO
    by_cases hlt : k < n
    · have hki : (k : Int) < (n : Int) := by omega
      have hk0 : (0 : Int) ≤ (k : Int) := by omega
      obtain ⟨ty, pv, fn, rv, hif, fm, fna, fcl, HC⟩ := val_op s mb na M (T k) k (HOK.out k hlt) HSS.out (HTT.out k hlt).1 HMM.out (HTT.out k hlt).2
      have a0 := (HL5.out wr hbr).cell k hlt 0 (by decide)
      rw [Nat.mul_one, Nat.add_zero, hif] at a0
      have HBR : Hid (Below w5.heap.size w5 wr) := hbr
      have HIF : Hid (opT (T k) = .iface ty pv) := hif
      have HVC : Hid (∀ w', Below wr.heap.size wr w' → Calls Tryz.prog fn #[rv, .agg #[.int .i64 (s : Int), .map (some mb)], .slice (some ⟨G, 0, none⟩) k n] w' fun e w'' => e = .returned (.agg #[.int .u64 ((limb 0 (vstp s M (T k) (vls s M T k)) : Nat) : Int), .int .u64 ((limb 1 (vstp s M (T k) (vls s M T k)) : Nat) : Int), .int .u64 ((limb 2 (vstp s M (T k) (vls s M T k)) : Nat) : Int), .int .u64 ((limb 3 (vstp s M (T k) (vls s M T k)) : Nat) : Int)]) ∧ Below w'.heap.size w' w'') := fun w' h => by
        have hbo := HR.out.1.belowAll h
        exact HC w' G n (vls s M T k) (fun i _ => vls_lt s M T k i) (HGW.out w' (bStep HB5.out (bStep HBR.out h))) (HF5.out w' (bStep HBR.out h)).2 ⟨hk, hbo.lt⟩ (fun i hi j hj => by rw [Nat.zero_add]; exact hbo.cell i (by omega) j hj)
      obtain ⟨r, er⟩ : ∃ r, r = vstp s M (T k) (vls s M T k) := ⟨_, rfl⟩
      rw [← er] at HVC
      have HER : Hid (r = vstp s M (T k) (vls s M T k)) := er
      clear HC hif er hbr
      obtain ⟨bq, ebq⟩ : ∃ b, b = isQ (T k).1 := ⟨_, rfl⟩
      have HOQ : Hid (okO (T k).1 = true) := by
        have h := HOK.out k hlt
        unfold okN at h
        rw [Bool.and_eq_true] at h
        exact h.1
      -- the type assertion, and whether the query has a number
      obtain ⟨O, X, Y, hE⟩ : ∃ O X Y, (T k).1 = O ∧ (T k).2.1 = X ∧ (T k).2.2.1 = Y := ⟨_, _, _, rfl, rfl, rfl⟩
      have HE : Hid ((T k).1 = O ∧ (T k).2.1 = X ∧ (T k).2.2.1 = Y) := hE
      clear hE
      obtain ⟨ag, eag⟩ : ∃ b, b = (M (qOf (T k))).isSome := ⟨_, rfl⟩
      have HAG : Hid (ag = (M (qOf (T k))).isSome) := eag
      clear eag
      have HBQ : Hid (bq = isQ (T k).1) := ebq
      clear ebq
      obtain ⟨qx, qy, qz, hta⟩ : ∃ qx qy qz : Int, (∀ w, (Instr.typeAssert (.iface ty pv) 147 151 true).run Tryz.prog w = .ok (.tuple #[.agg #[.int .i64 qx, .int .i64 qy, .int .i64 qz], .bool bq]) w) ∧ (bq = true → (qx, qy, qz) = qOf (T k)) := by
        cases bq
        · obtain ⟨ty', pv', e', h'⟩ := opT_n (T k) HBQ.out.symm HOQ.out
          rw [HIF.out] at e'
          cases e'
          exact ⟨0, 0, 0, h', fun h => by cases h⟩
        · have e' := opT_q (T k) HBQ.out.symm
          rw [HIF.out] at e'
          cases e'
          exact ⟨_, _, _, as_q _ _ _, fun _ => rfl⟩
      have HQE : Hid (bq = true → (qx, qy, qz) = qOf (T k)) := hta.2
      have hta' := hta.1
      obtain ⟨b18, eb18⟩ : ∃ x, x = wr.heap.size := ⟨_, rfl⟩
      obtain ⟨wq, ewq⟩ : ∃ x : World, x = wr.alloc (.cells #[.int .i64 qx, .int .i64 qy, .int .i64 qz] 151) := ⟨_, rfl⟩
      have haq : wr.alloc (.cells #[.int .i64 qx, .int .i64 qy, .int .i64 qz] 151) = wq := ewq.symm
      have h18 : wr.heap.size = b18 := eb18.symm
      have hbq : Below wr.heap.size wr wq := by rw [ewq]; exact bAlloc (Below.refl _ _) _
      have g18 : wq.heap[b18]? = some (.cells #[.int .i64 qx, .int .i64 qy, .int .i64 qz] 151) := by rw [ewq, eb18]; show (wr.heap.push _)[wr.heap.size]? = _; simp
      have HRQ : Hid (Below wr.heap.size wr wq) := hbq
      have HG18 : Hid (wq.heap[b18]? = some (.cells #[.int .i64 qx, .int .i64 qy, .int .i64 qz] 151)) := g18
      clear hta ewq eb18 hbq g18
      go_upto_region 15 with fail
      clear haq h18 hta' a0
      -- what lies behind the look: the same for both ways
      have HFIN : Hid (∀ wq, Below wr.heap.size wr wq → (bq = true → ag = true) → ∀ i, i < k + 1 → isQ (T i).1 = true → (M (qOf (T i))).isSome = true) := fun _ _ h i hi hq => by
        rcases Nat.lt_or_ge i k with h1 | h1
        · exact HR.out.2 i h1 hq
        · have : i = k := by omega
          subst this
          rw [← HAG.out]
          exact h (HBQ.out.trans hq)
      cases bq
      · have HNX : Hid (∀ i, i < k + 1 → isQ (T i).1 = true → (M (qOf (T i))).isSome = true) := HFIN.out wq HRQ.out (fun h => by cases h)
        have HFA : Hid (∀ w', Below wq.heap.size wq w' → w'.heap[b14]? = some (.cells #[.int .i64 (s : Int), .map (some mb)] 159) ∧ True) := fun w' h => ⟨(HF5.out w' (bStep HBR.out (bStep HRQ.out h))).1, trivial⟩
        have HCC : Hid (∀ w', Below wq.heap.size wq w' → Calls Tryz.prog fn #[rv, .agg #[.int .i64 (s : Int), .map (some mb)], .slice (some ⟨G, 0, none⟩) k n] w' fun e w'' => e = .returned (.agg #[.int .u64 ((limb 0 (r) : Nat) : Int), .int .u64 ((limb 1 (r) : Nat) : Int), .int .u64 ((limb 2 (r) : Nat) : Int), .int .u64 ((limb 3 (r) : Nat) : Int)]) ∧ Below w'.heap.size w' w'') := fun w' h => HVC.out w' (bStep HRQ.out h)
        go_upto_region 17 with fail
        refine wp_region_Z (fun w' => Below wq.heap.size wq w') 12 (by kernel_rfl) ?_
        obtain ⟨wD, hD⟩ : ∃ z : World, z = wq.drew := ⟨_, rfl⟩
        rw [← hD]
        have hp0 : Below wq.heap.size wq wD := by rw [hD]; exact (Below.refl _ _).drew
        clear hD
        refine zt 0 67 (.slice (some ⟨G, 0, none⟩) n n) rfl rfl (fun w hSw => by go_simp) hp0 ?_
        simp only [Act.put, List.setIfInBounds_toArray]
        dsimp only [List.set_cons_zero, List.set_cons_succ]
        refine zt 1 68 (.int .i64 (k : Int)) rfl rfl (fun w hSw => by go_simp) hp0 ?_
        simp only [Act.put, List.setIfInBounds_toArray]
        dsimp only [List.set_cons_zero, List.set_cons_succ]
        refine zt 2 69 (.iface ty pv) rfl rfl (fun w hSw => by go_simp) hp0 ?_
        simp only [Act.put, List.setIfInBounds_toArray]
        dsimp only [List.set_cons_zero, List.set_cons_succ]
        refine zt 3 70 (.agg #[.int .i64 (s : Int), .map (some mb)]) rfl rfl (fun w hSw => by obtain ⟨g14, _⟩ := HFA.out w hSw; have c0 := cell_of_block g14 0; have c1 := cell_of_block g14 1; clear g14; clear hSw; go_simp) hp0 ?_
        simp only [Act.put, List.setIfInBounds_toArray]
        dsimp only [List.set_cons_zero, List.set_cons_succ]
        refine zt 4 71 (.slice (some ⟨G, 0, none⟩) n n) rfl rfl (fun w hSw => by go_simp) hp0 ?_
        simp only [Act.put, List.setIfInBounds_toArray]
        dsimp only [List.set_cons_zero, List.set_cons_succ]
        refine zt 5 72 (.int .i64 (k : Int)) rfl rfl (fun w hSw => by go_simp) hp0 ?_
        simp only [Act.put, List.setIfInBounds_toArray]
        dsimp only [List.set_cons_zero, List.set_cons_succ]
        refine zt 6 73 (.slice (some ⟨G, 0, none⟩) k n) rfl rfl (fun w hSw => by go_simp) hp0 ?_
        simp only [Act.put, List.setIfInBounds_toArray]
        dsimp only [List.set_cons_zero, List.set_cons_succ]
        refine zt 7 74 (.func (.method "sigil/expr.value") #[.iface ty pv] #[]) rfl rfl (fun w hSw => by go_simp) hp0 ?_
        simp only [Act.put, List.setIfInBounds_toArray]
        dsimp only [List.set_cons_zero, List.set_cons_succ]
        refine zt 8 75 (.func (.method "sigil/expr.value") #[.iface ty pv] #[]) rfl rfl (fun w hSw => by go_simp) hp0 ?_
        simp only [Act.put, List.setIfInBounds_toArray]
        dsimp only [List.set_cons_zero, List.set_cons_succ]
        refine zt 9 76 (.iface ty pv) rfl rfl (fun w hSw => by go_simp) hp0 ?_
        simp only [Act.put, List.setIfInBounds_toArray]
        dsimp only [List.set_cons_zero, List.set_cons_succ]
        refine wpZ_one (i := 10) (by kernel_rfl) rfl (fun K hK => ?_)
        go_simp
        refine Calls.mono (HCC.out wD hp0) ?_
        rintro e wK1 ⟨rfl, hbK1⟩
        have hpK1 : Below wq.heap.size wq wK1 := bStep hp0 hbK1
        clear hbK1
        go_wp2_with fail
        refine hK.out _ _ (fun _ => hpK1) ?_
        clear hK K
        refine zt 11 78 (.pointer (some ⟨G, k * 4, none⟩)) rfl rfl (fun w hSw => by go_simp) hpK1 ?_
        simp only [Act.put, List.setIfInBounds_toArray]
        dsimp only [List.set_cons_zero, List.set_cons_succ]
        have hbo := (HR.out.1.belowAll HRQ.out).belowAll hpK1
        refine wpZ_one (i := 12) (by kernel_rfl) rfl (fun K hK => ?_)
        have k0 := hbo.cell k hlt 0 (by decide); have k1 := hbo.cell k hlt 1 (by decide); have k2 := hbo.cell k hlt 2 (by decide); have k3 := hbo.cell k hlt 3 (by decide)
        have fG := hbo.frozen
        rw [Nat.add_zero] at k0
        obtain ⟨wS, ewS⟩ : ∃ x : World, x = (((wK1.setCell ⟨G, k * 4, none⟩ (.int .u64 ((limb 0 r : Nat) : Int))).setCell ⟨G, k * 4 + 1, none⟩ (.int .u64 ((limb 1 r : Nat) : Int))).setCell ⟨G, k * 4 + 2, none⟩ (.int .u64 ((limb 2 r : Nat) : Int))).setCell ⟨G, k * 4 + 3, none⟩ (.int .u64 ((limb 3 r : Nat) : Int)) := ⟨_, rfl⟩
        have HBN : Hid (BlkR wS 50 G 4 n (fun i j => .int .u64 ((limb j (vls s M T (k + 1) i) : Nat) : Int))) := by
          rw [ewS]
          refine ((((hbo.set k 0 (k * 4) hlt (by decide) (by omega) (.int .u64 ((limb 0 r : Nat) : Int))).set k 1 (k * 4 + 1) hlt (by decide) rfl (.int .u64 ((limb 1 r : Nat) : Int))).set k 2 (k * 4 + 2) hlt (by decide) rfl (.int .u64 ((limb 2 r : Nat) : Int))).set k 3 (k * 4 + 3) hlt (by decide) rfl (.int .u64 ((limb 3 r : Nat) : Int))).congr (fun i _ j hj => ?_)
          show Value.int .u64 ((limb j (if i = k then vstp s M (T k) (vls s M T k) else vls s M T k i) : Nat) : Int) = _
          have hc : j = 0 ∨ j = 1 ∨ j = 2 ∨ j = 3 := by omega
          by_cases h1 : i = k
          · rw [if_pos h1, ← HER.out]
            rcases hc with rfl | rfl | rfl | rfl <;> simp [h1]
          · rw [if_neg h1]
            simp [h1]
        have HBS : Hid (Below w5.heap.size w5 wS) := by
          rw [ewS]
          exact ((((bStep HBR.out (bStep HRQ.out hpK1)).setCell HLG.out _).setCell HLG.out _).setCell HLG.out _).setCell HLG.out _
        clear hbo
        go_simp
        rw [← ewS]
        refine hK.out _ _ (fun h => absurd rfl h) ?_
        clear hK K k0 k1 k2 k3 fG ewS hp0 hpK1
        refine wpZ_done (by kernel_rfl) ?_ _
        go_wp2
        go_roundw
        case measure => simp [intOf]; omega
        case rel => exact ⟨k + 1, by go_num, hlt, HBS.out, ⟨HBN.out, HNX.out⟩⟩
      · have HQR : Hid (rngQ (qx, qy, qz)) := by
          have h := (HTT.out k hlt).2 HBQ.out.symm
          have h2 := of_decide_eq_true HBQ.out.symm
          rw [HQE.out rfl]
          exact ⟨⟨by show _ ≤ (T k).1; omega, by show (T k).1 ≤ _; omega⟩, h.1, h.2⟩
        have HHA : Hid (Calls _ _ _ _ _) := has_any (s : Int) mb na M (qx, qy, qz) HQR.out wq (HF5.out wq (bStep HBR.out HRQ.out)).2
        rw [HQE.out rfl, ← HAG.out] at HHA
        have HHB : Hid (Calls Tryz.prog 93 #[.agg #[.int .i64 (s : Int), .map (some mb)], .agg #[.int .i64 qx, .int .i64 qy, .int .i64 qz]] wq fun e w' => e = .returned (.bool ag) ∧ Below wq.heap.size wq w') := by
          have h := HHA.out
          rw [← HQE.out rfl] at h
          exact h
        have c0 : wq.cell? ⟨b14, 0, none⟩ = some (.int .i64 (s : Int)) := cell_of_block (HF5.out wq (bStep HBR.out HRQ.out)).1 0
        have c1 : wq.cell? ⟨b14, 1, none⟩ = some (.map (some mb)) := cell_of_block (HF5.out wq (bStep HBR.out HRQ.out)).1 1
        have d0 : wq.cell? ⟨b18, 0, none⟩ = some (.int .i64 qx) := cell_of_block HG18.out 0
        have d1 : wq.cell? ⟨b18, 1, none⟩ = some (.int .i64 qy) := cell_of_block HG18.out 1
        have d2 : wq.cell? ⟨b18, 2, none⟩ = some (.int .i64 qz) := cell_of_block HG18.out 2
        clear HHA
        go_wp2_with fail
        refine Calls.mono HHB.out ?_
        rintro e wq2 ⟨rfl, hbq'⟩
        have HRQ2 : Hid (Below wr.heap.size wr wq2) := bStep HRQ.out hbq'
        clear hbq' c0 c1 d0 d1 d2 HHB HRQ HG18
        cases ag
        · have HBF : Hid (Below w.heap.size w wq2) := bStep HB5.out (bStep HBR.out HRQ2.out)
          have HNO : Hid (okV n T M = false) := decide_eq_false (fun h => by
            have h1 := h k hlt HBQ.out.symm
            rw [← HAG.out] at h1
            cases h1)
          go_wp2
          go_ret2
          refine ⟨Or.inr ⟨?_, ?_⟩, HBF.out⟩
          · rw [HOR.out, HNO.out]; exact (show ¬ (50 : Int) = 0 by decide)
          · rw [HOR.out, HNO.out]; rfl
        have HNX : Hid (∀ i, i < k + 1 → isQ (T i).1 = true → (M (qOf (T i))).isSome = true) := HFIN.out wq2 HRQ2.out (fun _ => rfl)
        have HFA : Hid (∀ w', Below wq2.heap.size wq2 w' → w'.heap[b14]? = some (.cells #[.int .i64 (s : Int), .map (some mb)] 159) ∧ True) := fun w' h => ⟨(HF5.out w' (bStep HBR.out (bStep HRQ2.out h))).1, trivial⟩
        have HCC : Hid (∀ w', Below wq2.heap.size wq2 w' → Calls Tryz.prog fn #[rv, .agg #[.int .i64 (s : Int), .map (some mb)], .slice (some ⟨G, 0, none⟩) k n] w' fun e w'' => e = .returned (.agg #[.int .u64 ((limb 0 (r) : Nat) : Int), .int .u64 ((limb 1 (r) : Nat) : Int), .int .u64 ((limb 2 (r) : Nat) : Int), .int .u64 ((limb 3 (r) : Nat) : Int)]) ∧ Below w'.heap.size w' w'') := fun w' h => HVC.out w' (bStep HRQ2.out h)
        go_upto_region 17 with fail
        refine wp_region_Z (fun w' => Below wq2.heap.size wq2 w') 12 (by kernel_rfl) ?_
        obtain ⟨wD, hD⟩ : ∃ z : World, z = wq2.drew := ⟨_, rfl⟩
        rw [← hD]
        have hp0 : Below wq2.heap.size wq2 wD := by rw [hD]; exact (Below.refl _ _).drew
        clear hD
        refine zt 0 67 (.slice (some ⟨G, 0, none⟩) n n) rfl rfl (fun w hSw => by go_simp) hp0 ?_
        simp only [Act.put, List.setIfInBounds_toArray]
        dsimp only [List.set_cons_zero, List.set_cons_succ]
        refine zt 1 68 (.int .i64 (k : Int)) rfl rfl (fun w hSw => by go_simp) hp0 ?_
        simp only [Act.put, List.setIfInBounds_toArray]
        dsimp only [List.set_cons_zero, List.set_cons_succ]
        refine zt 2 69 (.iface ty pv) rfl rfl (fun w hSw => by go_simp) hp0 ?_
        simp only [Act.put, List.setIfInBounds_toArray]
        dsimp only [List.set_cons_zero, List.set_cons_succ]
        refine zt 3 70 (.agg #[.int .i64 (s : Int), .map (some mb)]) rfl rfl (fun w hSw => by obtain ⟨g14, _⟩ := HFA.out w hSw; have c0 := cell_of_block g14 0; have c1 := cell_of_block g14 1; clear g14; clear hSw; go_simp) hp0 ?_
        simp only [Act.put, List.setIfInBounds_toArray]
        dsimp only [List.set_cons_zero, List.set_cons_succ]
        refine zt 4 71 (.slice (some ⟨G, 0, none⟩) n n) rfl rfl (fun w hSw => by go_simp) hp0 ?_
        simp only [Act.put, List.setIfInBounds_toArray]
        dsimp only [List.set_cons_zero, List.set_cons_succ]
        refine zt 5 72 (.int .i64 (k : Int)) rfl rfl (fun w hSw => by go_simp) hp0 ?_
        simp only [Act.put, List.setIfInBounds_toArray]
        dsimp only [List.set_cons_zero, List.set_cons_succ]
        refine zt 6 73 (.slice (some ⟨G, 0, none⟩) k n) rfl rfl (fun w hSw => by go_simp) hp0 ?_
        simp only [Act.put, List.setIfInBounds_toArray]
        dsimp only [List.set_cons_zero, List.set_cons_succ]
        refine zt 7 74 (.func (.method "sigil/expr.value") #[.iface ty pv] #[]) rfl rfl (fun w hSw => by go_simp) hp0 ?_
        simp only [Act.put, List.setIfInBounds_toArray]
        dsimp only [List.set_cons_zero, List.set_cons_succ]
        refine zt 8 75 (.func (.method "sigil/expr.value") #[.iface ty pv] #[]) rfl rfl (fun w hSw => by go_simp) hp0 ?_
        simp only [Act.put, List.setIfInBounds_toArray]
        dsimp only [List.set_cons_zero, List.set_cons_succ]
        refine zt 9 76 (.iface ty pv) rfl rfl (fun w hSw => by go_simp) hp0 ?_
        simp only [Act.put, List.setIfInBounds_toArray]
        dsimp only [List.set_cons_zero, List.set_cons_succ]
        refine wpZ_one (i := 10) (by kernel_rfl) rfl (fun K hK => ?_)
        go_simp
        refine Calls.mono (HCC.out wD hp0) ?_
        rintro e wK1 ⟨rfl, hbK1⟩
        have hpK1 : Below wq2.heap.size wq2 wK1 := bStep hp0 hbK1
        clear hbK1
        go_wp2_with fail
        refine hK.out _ _ (fun _ => hpK1) ?_
        clear hK K
        refine zt 11 78 (.pointer (some ⟨G, k * 4, none⟩)) rfl rfl (fun w hSw => by go_simp) hpK1 ?_
        simp only [Act.put, List.setIfInBounds_toArray]
        dsimp only [List.set_cons_zero, List.set_cons_succ]
        have hbo := (HR.out.1.belowAll HRQ2.out).belowAll hpK1
        refine wpZ_one (i := 12) (by kernel_rfl) rfl (fun K hK => ?_)
        have k0 := hbo.cell k hlt 0 (by decide); have k1 := hbo.cell k hlt 1 (by decide); have k2 := hbo.cell k hlt 2 (by decide); have k3 := hbo.cell k hlt 3 (by decide)
        have fG := hbo.frozen
        rw [Nat.add_zero] at k0
        obtain ⟨wS, ewS⟩ : ∃ x : World, x = (((wK1.setCell ⟨G, k * 4, none⟩ (.int .u64 ((limb 0 r : Nat) : Int))).setCell ⟨G, k * 4 + 1, none⟩ (.int .u64 ((limb 1 r : Nat) : Int))).setCell ⟨G, k * 4 + 2, none⟩ (.int .u64 ((limb 2 r : Nat) : Int))).setCell ⟨G, k * 4 + 3, none⟩ (.int .u64 ((limb 3 r : Nat) : Int)) := ⟨_, rfl⟩
        have HBN : Hid (BlkR wS 50 G 4 n (fun i j => .int .u64 ((limb j (vls s M T (k + 1) i) : Nat) : Int))) := by
          rw [ewS]
          refine ((((hbo.set k 0 (k * 4) hlt (by decide) (by omega) (.int .u64 ((limb 0 r : Nat) : Int))).set k 1 (k * 4 + 1) hlt (by decide) rfl (.int .u64 ((limb 1 r : Nat) : Int))).set k 2 (k * 4 + 2) hlt (by decide) rfl (.int .u64 ((limb 2 r : Nat) : Int))).set k 3 (k * 4 + 3) hlt (by decide) rfl (.int .u64 ((limb 3 r : Nat) : Int))).congr (fun i _ j hj => ?_)
          show Value.int .u64 ((limb j (if i = k then vstp s M (T k) (vls s M T k) else vls s M T k i) : Nat) : Int) = _
          have hc : j = 0 ∨ j = 1 ∨ j = 2 ∨ j = 3 := by omega
          by_cases h1 : i = k
          · rw [if_pos h1, ← HER.out]
            rcases hc with rfl | rfl | rfl | rfl <;> simp [h1]
          · rw [if_neg h1]
            simp [h1]
        have HBS : Hid (Below w5.heap.size w5 wS) := by
          rw [ewS]
          exact ((((bStep HBR.out (bStep HRQ2.out hpK1)).setCell HLG.out _).setCell HLG.out _).setCell HLG.out _).setCell HLG.out _
        clear hbo
        go_simp
        rw [← ewS]
        refine hK.out _ _ (fun h => absurd rfl h) ?_
        clear hK K k0 k1 k2 k3 fG ewS hp0 hpK1
        refine wpZ_done (by kernel_rfl) ?_ _
        go_wp2
        go_roundw
        case measure => simp [intOf]; omega
        case rel => exact ⟨k + 1, by go_num, hlt, HBS.out, ⟨HBN.out, HNX.out⟩⟩
    · have hki : ¬ (k : Int) < (n : Int) := by omega
      have ek : k = n := by omega
      subst ek
      have HBF : Hid (Below w.heap.size w wr) := bStep HB5.out hbr
      have HOV : Hid (okV k T M = true) := decide_eq_true HR.out.2
      have HGG : Hid (w.heap.size ≤ G) := Nat.le_trans HB5.out.size HLG.out
      clear hbr
      go_wp2
      go_ret2
      refine ⟨Or.inl ⟨?_, G, rfl, HGG.out, HR.out.1⟩, HBF.out⟩
      rw [HOR.out, HOV.out]; rfl
end Go.Proofs.YtgldibfpidmfhaaGreatDoor
