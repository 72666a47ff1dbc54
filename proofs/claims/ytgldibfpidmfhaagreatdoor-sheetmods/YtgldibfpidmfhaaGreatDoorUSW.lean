/- sheet's filled: the value's cells; rows. -/
import Derived.Test.YtgldibfpidmfhaaGreatDoorUSX
import Derived.Test.YtgldibfpidmfhaaGreatDoorULA
import Derived.Test.YtgldibfpidmfhaaGreatDoorUBE
namespace Go.Proofs.YtgldibfpidmfhaaGreatDoor
open Go.RowKit
set_option maxHeartbeats 4000000 in
set_option maxRecDepth 100000 in
theorem rows_any (F A I : Int) (oN oG oL oE oa ob oc od : Option Addr) (n cN g cG l cL m cE na ca nb cb nc cc nd cd k : Nat) (h3 : 3 ≤ k) (h5 : k ≤ 5) (w : World) :
    Calls Tryz.prog 34 #[.agg #[.int .i64 F, .int .i64 A, .int .i64 I, .slice oN n cN, .slice oG g cG, .slice oL l cL, .slice oE m cE, .slice oa na ca, .slice ob nb cb, .slice oc nc cc, .slice od nd cd, .int .i64 (k : Int)]] w fun e w' => e = .returned (.int .i64 ((2 ^ k : Nat) : Int)) ∧ Below w.heap.size w w' := by
  have HB : Hid (∀ o, Below w.heap.size w (w.alloc o)) := fun o => bAlloc (Below.refl _ _) o
  have hk : k = 3 ∨ k = 4 ∨ k = 5 := by omega
  rcases hk with rfl | rfl | rfl
  · go_enter Tryz.func34, Tryz.ntmps34
    go_wp2
    go_ret
    exact ⟨rfl, HB.out _⟩
  · go_enter Tryz.func34, Tryz.ntmps34
    go_wp2
    go_ret
    exact ⟨rfl, HB.out _⟩
  · go_enter Tryz.func34, Tryz.ntmps34
    go_wp2
    go_ret
    exact ⟨rfl, HB.out _⟩
theorem and_mod8 (r : Int) (h0 : -1000 ≤ r) (h1 : r ≤ 1000) : bits BinOp.and IntKind.i64 r 7 = r % 8 := by
  have h : ∀ x : Fin 2001, bits BinOp.and IntKind.i64 ((x.val : Int) - 1000) 7 = ((x.val : Int) - 1000) % 8 := by decide +kernel
  have hx := h ⟨(r + 1000).toNat, by omega⟩
  rw [show (((r + 1000).toNat : Nat) : Int) - 1000 = r by omega] at hx
  exact hx
theorem and_mod16 (r : Int) (h0 : -1000 ≤ r) (h1 : r ≤ 1000) : bits BinOp.and IntKind.i64 r 15 = r % 16 := by
  have h : ∀ x : Fin 2001, bits BinOp.and IntKind.i64 ((x.val : Int) - 1000) 15 = ((x.val : Int) - 1000) % 16 := by decide +kernel
  have hx := h ⟨(r + 1000).toNat, by omega⟩
  rw [show (((r + 1000).toNat : Nat) : Int) - 1000 = r by omega] at hx
  exact hx
theorem and_mod32 (r : Int) (h0 : -1000 ≤ r) (h1 : r ≤ 1000) : bits BinOp.and IntKind.i64 r 31 = r % 32 := by
  have h : ∀ x : Fin 2001, bits BinOp.and IntKind.i64 ((x.val : Int) - 1000) 31 = ((x.val : Int) - 1000) % 32 := by decide +kernel
  have hx := h ⟨(r + 1000).toNat, by omega⟩
  rw [show (((r + 1000).toNat : Nat) : Int) - 1000 = r by omega] at hx
  exact hx
set_option maxHeartbeats 4000000 in
set_option maxRecDepth 100000 in
theorem around_any (F A I : Int) (oN oG oL oE oa ob oc od : Option Addr) (n cN g cG l cL m cE na ca nb cb nc cc nd cd k : Nat) (row : Int) (h3 : 3 ≤ k) (h5 : k ≤ 5) (h0 : -1000 ≤ row) (h1 : row ≤ 1000) (w : World) :
    Calls Tryz.prog 64 #[.agg #[.int .i64 F, .int .i64 A, .int .i64 I, .slice oN n cN, .slice oG g cG, .slice oL l cL, .slice oE m cE, .slice oa na ca, .slice ob nb cb, .slice oc nc cc, .slice od nd cd, .int .i64 (k : Int)], .int .i64 row] w fun e w' => e = .returned (.int .i64 (row % (2 ^ k : Nat))) ∧ Below w.heap.size w w' := by
  obtain ⟨w1, hw1⟩ : ∃ x : World, x = w.alloc (.cells #[.int .i64 F, .int .i64 A, .int .i64 I, .slice oN n cN, .slice oG g cG, .slice oL l cL, .slice oE m cE, .slice oa na ca, .slice ob nb cb, .slice oc nc cc, .slice od nd cd, .int .i64 (k : Int)] 65) := ⟨_, rfl⟩
  have HB : Hid (Below w.heap.size w w1) := by rw [hw1]; exact bAlloc (Below.refl _ _) _
  have HR : Hid (∀ w', Calls _ _ _ w' _) := fun w' => rows_any F A I oN oG oL oE oa ob oc od n cN g cG l cL m cE na ca nb cb nc cc nd cd k h3 h5 w'
  have hk : k = 3 ∨ k = 4 ∨ k = 5 := by omega
  go_enter Tryz.func64, Tryz.ntmps64
  go_wp2_with fail
  rw [← hw1]
  refine Calls.mono (HR.out w1) ?_
  rintro e w2 ⟨rfl, hb2⟩
  have HBF : Hid (Below w.heap.size w w2) := bStep HB.out hb2
  clear hb2 HR HB hw1
  rcases hk with rfl | rfl | rfl
  · go_wp2
    go_ret
    refine ⟨?_, HBF.out⟩
    show Ending.returned (.int .i64 (bits BinOp.and IntKind.i64 row 7)) = _
    rw [and_mod8 row h0 h1]
    rfl
  · go_wp2
    go_ret
    refine ⟨?_, HBF.out⟩
    show Ending.returned (.int .i64 (bits BinOp.and IntKind.i64 row 15)) = _
    rw [and_mod16 row h0 h1]
    rfl
  · go_wp2
    go_ret
    refine ⟨?_, HBF.out⟩
    show Ending.returned (.int .i64 (bits BinOp.and IntKind.i64 row 31)) = _
    rw [and_mod32 row h0 h1]
    rfl
end Go.Proofs.YtgldibfpidmfhaaGreatDoor

/- usable, columnsFit of sheet's filled. -/
namespace Go.Proofs.YtgldibfpidmfhaaGreatDoor
open Go.RowKit
/-- How many rows are usable. -/
def usN (k : Int) : Int := if 2 ≤ k ∧ k ≤ 30 then 2 ^ k.toNat - 4 else 0
set_option maxHeartbeats 4000000 in
set_option maxRecDepth 100000 in
theorem usable_f (F A I : Int) (oN oG oL oE oa ob oc od : Option Addr) (n cN g cG l cL m cE na ca nb cb nc cc nd cd : Nat) (k : Int) (w : World) :
    Calls Tryz.prog 45 #[.agg #[.int .i64 F, .int .i64 A, .int .i64 I, .slice oN n cN, .slice oG g cG, .slice oL l cL, .slice oE m cE, .slice oa na ca, .slice ob nb cb, .slice oc nc cc, .slice od nd cd, .int .i64 k]] w fun e w' => e = .returned (.int .i64 (usN k)) ∧ Below w.heap.size w w' := by
  obtain ⟨w1, hw1⟩ : ∃ x : World, x = w.alloc (.cells #[.int .i64 F, .int .i64 A, .int .i64 I, .slice oN n cN, .slice oG g cG, .slice oL l cL, .slice oE m cE, .slice oa na ca, .slice ob nb cb, .slice oc nc cc, .slice od nd cd, .int .i64 k] 65) := ⟨_, rfl⟩
  have HB : Hid (Below w.heap.size w w1) := by rw [hw1]; exact bAlloc (Below.refl _ _) _
  have HU : Hid (∀ w', Calls _ _ _ w' _) := fun w' => usable_any k w'
  obtain ⟨u, eu⟩ : ∃ u, u = usN k := ⟨_, rfl⟩
  rw [← eu]
  rw [show (if 2 ≤ k ∧ k ≤ 30 then 2 ^ k.toNat - 4 else 0 : Int) = u from eu.symm] at HU
  clear eu
  go_enter Tryz.func45, Tryz.ntmps45
  go_wp2_with fail
  rw [← hw1]
  refine Calls.mono (HU.out w1) ?_
  rintro e w2 ⟨rfl, rfl⟩
  clear hw1 HU
  go_wp2
  go_ret
  exact ⟨rfl, HB.out⟩
set_option maxHeartbeats 8000000 in
set_option maxRecDepth 100000 in
theorem colsFit_f (F A I : Int) (oN oG oL oE oa ob oc od : Option Addr) (n cN g cG l cL m cE na ca nb cb nc cc nd cd : Nat) (k : Int) (Fa Fb Fc : Nat → Value) (La Lb Lc : Nat → Nat) (Ea Eb Ec : Nat → Nat → Nat) (ha : na ≤ 1000000) (hb : nb ≤ 1000000) (hc : nc ≤ 1000000) (w : World) (hta : Tab w (.slice oa na ca) na Fa La Ea) (htb : Tab w (.slice ob nb cb) nb Fb Lb Eb) (htc : Tab w (.slice oc nc cc) nc Fc Lc Ec) :
    Calls Tryz.prog 72 #[.agg #[.int .i64 F, .int .i64 A, .int .i64 I, .slice oN n cN, .slice oG g cG, .slice oL l cL, .slice oE m cE, .slice oa na ca, .slice ob nb cb, .slice oc nc cc, .slice od nd cd, .int .i64 k]] w fun e w' => e = .returned (.bool (fewB na La F (usN k) && fewB nb Lb A (usN k) && fewB nc Lc I (usN k))) ∧ Below w.heap.size w w' := by
  obtain ⟨w1, hw1⟩ : ∃ x : World, x = w.alloc (.cells #[.int .i64 F, .int .i64 A, .int .i64 I, .slice oN n cN, .slice oG g cG, .slice oL l cL, .slice oE m cE, .slice oa na ca, .slice ob nb cb, .slice oc nc cc, .slice od nd cd, .int .i64 k] 65) := ⟨_, rfl⟩
  have hb1 : Below w.heap.size w w1 := by rw [hw1]; exact bAlloc (Below.refl _ _) _
  have hA : (w.alloc (.cells #[.int .i64 F, .int .i64 A, .int .i64 I, .slice oN n cN, .slice oG g cG, .slice oL l cL, .slice oE m cE, .slice oa na ca, .slice ob nb cb, .slice oc nc cc, .slice od nd cd, .int .i64 k] 65)).heap[w.heap.size]? = some (.cells #[.int .i64 F, .int .i64 A, .int .i64 I, .slice oN n cN, .slice oG g cG, .slice oL l cL, .slice oE m cE, .slice oa na ca, .slice ob nb cb, .slice oc nc cc, .slice od nd cd, .int .i64 k] 65) := by show (w.heap.push _)[w.heap.size]? = _; simp
  have hs1 : w1.heap[w.heap.size]? = some (.cells #[.int .i64 F, .int .i64 A, .int .i64 I, .slice oN n cN, .slice oG g cG, .slice oL l cL, .slice oE m cE, .slice oa na ca, .slice ob nb cb, .slice oc nc cc, .slice od nd cd, .int .i64 k] 65) := by rw [hw1]; exact hA
  have HU : Hid (∀ w', Calls _ _ _ w' _) := fun w' => usable_f F A I oN oG oL oE oa ob oc od n cN g cG l cL m cE na ca nb cb nc cc nd cd k w'
  obtain ⟨u, eu⟩ : ∃ u, u = usN k := ⟨_, rfl⟩
  rw [← eu] at HU ⊢
  have HTA : Hid (∀ w', Below w.heap.size w w' → Calls _ _ _ w' _) := fun w' h => soMany_any na ca oa Fa La Ea F u ha w' (hta.below h)
  have HTB : Hid (∀ w', Below w.heap.size w w' → Calls _ _ _ w' _) := fun w' h => soMany_any nb cb ob Fb Lb Eb A u hb w' (htb.below h)
  have HTC : Hid (∀ w', Below w.heap.size w w' → Calls _ _ _ w' _) := fun w' h => soMany_any nc cc oc Fc Lc Ec I u hc w' (htc.below h)
  obtain ⟨x, ex⟩ : ∃ x, x = fewB na La F u := ⟨_, rfl⟩
  obtain ⟨y, ey⟩ : ∃ y, y = fewB nb Lb A u := ⟨_, rfl⟩
  obtain ⟨z, ez⟩ : ∃ z, z = fewB nc Lc I u := ⟨_, rfl⟩
  rw [← ex] at HTA
  rw [← ey] at HTB
  rw [← ez] at HTC
  rw [← ex, ← ey, ← ez]
  clear eu ex ey ez hta htb htc hA
  go_enter Tryz.func72, Tryz.ntmps72
  go_wp2_with fail
  rw [← hw1]
  refine Calls.mono (HU.out w1) ?_
  rintro e w2 ⟨rfl, hb2⟩
  have HB2 : Hid (Below w.heap.size w w2) := bStep hb1 hb2
  have hs2 : w2.heap[w.heap.size]? = some (.cells #[.int .i64 F, .int .i64 A, .int .i64 I, .slice oN n cN, .slice oG g cG, .slice oL l cL, .slice oE m cE, .slice oa na ca, .slice ob nb cb, .slice oc nc cc, .slice od nd cd, .int .i64 k] 65) := (hb2.block w.heap.size (Array.getElem?_eq_some_iff.1 hs1).1).trans hs1
  have d0 : w2.cell? ⟨w.heap.size, 0, none⟩ = some (.int .i64 F) := by simp [World.cell?, hs2]
  have d1 : w2.cell? ⟨w.heap.size, 1, none⟩ = some (.int .i64 A) := by simp [World.cell?, hs2]
  have d2 : w2.cell? ⟨w.heap.size, 2, none⟩ = some (.int .i64 I) := by simp [World.cell?, hs2]
  have d7 : w2.cell? ⟨w.heap.size, 7, none⟩ = some (.slice oa na ca) := by simp [World.cell?, hs2]
  have d8 : w2.cell? ⟨w.heap.size, 8, none⟩ = some (.slice ob nb cb) := by simp [World.cell?, hs2]
  have d9 : w2.cell? ⟨w.heap.size, 9, none⟩ = some (.slice oc nc cc) := by simp [World.cell?, hs2]
  clear hw1 hb1 hs1 hs2 hb2 HU
  go_wp2_with fail
  refine Calls.mono (HTA.out w2 HB2.out) ?_
  rintro e w3 ⟨rfl, hw⟩
  obtain rfl := hw.symm
  clear hw
  cases x with
  | false =>
    go_wp2
    go_ret
    exact ⟨rfl, HB2.out⟩
  | true =>
    go_wp2_with fail
    refine Calls.mono (HTB.out w2 HB2.out) ?_
    rintro e w3 ⟨rfl, hw⟩
    obtain rfl := hw.symm
    clear hw
    cases y with
    | false =>
      go_wp2
      go_ret
      exact ⟨rfl, HB2.out⟩
    | true =>
      go_wp2_with fail
      refine Calls.mono (HTC.out w2 HB2.out) ?_
      rintro e w3 ⟨rfl, hw⟩
      obtain rfl := hw.symm
      clear hw
      cases z with
      | false =>
        go_wp2
        go_ret
        exact ⟨rfl, HB2.out⟩
      | true =>
        go_wp2
        go_ret
        exact ⟨rfl, HB2.out⟩
end Go.Proofs.YtgldibfpidmfhaaGreatDoor

/- isCell of sheet's filled. -/
namespace Go.Proofs.YtgldibfpidmfhaaGreatDoor
open Go.RowKit
set_option maxHeartbeats 16000000 in
set_option maxRecDepth 100000 in
theorem isCell_f (F A I : Int) (oN oG oL oE oa ob oc od : Option Addr) (n cN g cG l cL m cE na ca nb cb nc cc nd cd : Nat) (k : Int) (x y : Int) (w : World) :
    Calls Tryz.prog 102 #[.agg #[.int .i64 F, .int .i64 A, .int .i64 I, .slice oN n cN, .slice oG g cG, .slice oL l cL, .slice oE m cE, .slice oa na ca, .slice ob nb cb, .slice oc nc cc, .slice od nd cd, .int .i64 k], .agg #[.int .i64 x, .int .i64 y]] w fun e w' => e = .returned (.bool (decide (0 ≤ x ∧ x < (m : Int) ∧ 0 ≤ y ∧ y < usN k))) ∧ Below w.heap.size w w' := by
  obtain ⟨B1, eB1⟩ : ∃ b, b = w.heap.size := ⟨_, rfl⟩
  obtain ⟨B2, eB2⟩ : ∃ b, b = w.heap.size + 1 := ⟨_, rfl⟩
  obtain ⟨w2, hw2⟩ : ∃ z : World, z = (w.alloc (.cells #[.int .i64 F, .int .i64 A, .int .i64 I, .slice oN n cN, .slice oG g cG, .slice oL l cL, .slice oE m cE, .slice oa na ca, .slice ob nb cb, .slice oc nc cc, .slice od nd cd, .int .i64 k] 65)).alloc (.cells #[.int .i64 x, .int .i64 y] 80) := ⟨_, rfl⟩
  have HB2 : Hid (Below w.heap.size w w2) := by rw [hw2]; exact bAlloc (bAlloc (Below.refl _ _) _) _
  have hA : (w.alloc (.cells #[.int .i64 F, .int .i64 A, .int .i64 I, .slice oN n cN, .slice oG g cG, .slice oL l cL, .slice oE m cE, .slice oa na ca, .slice ob nb cb, .slice oc nc cc, .slice od nd cd, .int .i64 k] 65)).heap[w.heap.size]? = some (.cells #[.int .i64 F, .int .i64 A, .int .i64 I, .slice oN n cN, .slice oG g cG, .slice oL l cL, .slice oE m cE, .slice oa na ca, .slice ob nb cb, .slice oc nc cc, .slice od nd cd, .int .i64 k] 65) := by show (w.heap.push _)[w.heap.size]? = _; simp
  have hs : w2.heap[B1]? = some (.cells #[.int .i64 F, .int .i64 A, .int .i64 I, .slice oN n cN, .slice oG g cG, .slice oL l cL, .slice oE m cE, .slice oa na ca, .slice ob nb cb, .slice oc nc cc, .slice od nd cd, .int .i64 k] 65) := by rw [hw2, eB1]; exact ((bAlloc (Below.refl _ _) _).block w.heap.size (by simp)).trans hA
  have ht : w2.heap[B2]? = some (.cells #[.int .i64 x, .int .i64 y] 80) := by
    have e : B2 = (w.alloc (.cells #[.int .i64 F, .int .i64 A, .int .i64 I, .slice oN n cN, .slice oG g cG, .slice oL l cL, .slice oE m cE, .slice oa na ca, .slice ob nb cb, .slice oc nc cc, .slice od nd cd, .int .i64 k] 65)).heap.size := by rw [eB2]; simp
    rw [hw2, e]
    show ((w.alloc _).heap.push _)[(w.alloc _).heap.size]? = _
    exact Array.getElem?_push_size
  have HFC : Hid (∀ w', Below w2.heap.size w2 w' → w'.cell? ⟨B2, 0, none⟩ = some (.int .i64 x) ∧ w'.cell? ⟨B2, 1, none⟩ = some (.int .i64 y) ∧ True ∧ True) := fun w' h => by
    have h1 := (h.block B2 (Array.getElem?_eq_some_iff.1 ht).1).trans ht
    exact ⟨by simp [World.cell?, h1], by simp [World.cell?, h1], trivial, trivial⟩
  have HFA : Hid (∀ w', Below w2.heap.size w2 w' → w'.cell? ⟨B1, 0, none⟩ = some (.int .i64 F) ∧ w'.cell? ⟨B1, 1, none⟩ = some (.int .i64 A) ∧ w'.cell? ⟨B1, 2, none⟩ = some (.int .i64 I) ∧ w'.cell? ⟨B1, 3, none⟩ = some (.slice oN n cN) ∧ w'.cell? ⟨B1, 4, none⟩ = some (.slice oG g cG) ∧ w'.cell? ⟨B1, 5, none⟩ = some (.slice oL l cL) ∧ w'.cell? ⟨B1, 6, none⟩ = some (.slice oE m cE) ∧ w'.cell? ⟨B1, 7, none⟩ = some (.slice oa na ca) ∧ w'.cell? ⟨B1, 8, none⟩ = some (.slice ob nb cb) ∧ w'.cell? ⟨B1, 9, none⟩ = some (.slice oc nc cc) ∧ w'.cell? ⟨B1, 10, none⟩ = some (.slice od nd cd) ∧ w'.cell? ⟨B1, 11, none⟩ = some (.int .i64 k)) := fun w' h => by
    have h1 := (h.block B1 (Array.getElem?_eq_some_iff.1 hs).1).trans hs
    exact ⟨by simp [World.cell?, h1], by simp [World.cell?, h1], by simp [World.cell?, h1], by simp [World.cell?, h1], by simp [World.cell?, h1], by simp [World.cell?, h1], by simp [World.cell?, h1], by simp [World.cell?, h1], by simp [World.cell?, h1], by simp [World.cell?, h1], by simp [World.cell?, h1], by simp [World.cell?, h1]⟩
  have HU : Hid (∀ w', Calls _ _ _ w' _) := fun w' => usable_f F A I oN oG oL oE oa ob oc od n cN g cG l cL m cE na ca nb cb nc cc nd cd k w'
  obtain ⟨u, eu⟩ : ∃ u, u = usN k := ⟨_, rfl⟩
  rw [← eu] at HU ⊢
  obtain ⟨r, er⟩ : ∃ r, r = decide (0 ≤ x ∧ x < (m : Int) ∧ 0 ≤ y ∧ y < u) := ⟨_, rfl⟩
  rw [← er]
  have HRR : Hid (r = decide (0 ≤ x ∧ x < (m : Int) ∧ 0 ≤ y ∧ y < u)) := er
  clear eu er hA hs ht
  go_enter Tryz.func102, Tryz.ntmps102
  by_cases h1 : 0 ≤ x
  · by_cases h2 : x < (m : Int)
    · by_cases h3 : 0 ≤ y
      · by_cases h4 : y < u
        · have HR : Hid (r = true) := HRR.out.trans (decide_eq_true ⟨h1, h2, h3, h4⟩)
          go_upto_region 1 with fail
          rw [← hw2]
          try rw [← eB2]
          try rw [← eB1]
          clear hw2 eB1 eB2
          refine wp_region_Z (fun w' => Below w2.heap.size w2 w') 99 (by kernel_rfl) ?_
          obtain ⟨wD, hD⟩ : ∃ z : World, z = w2.drew := ⟨_, rfl⟩
          rw [← hD]
          have hp0 : Below w2.heap.size w2 wD := by rw [hD]; exact (Below.refl _ _).drew
          clear hD
          refine zt 0 5 (.pointer (some ⟨B2, 0, none⟩)) rfl rfl (fun w hSw => by go_simp) hp0 ?_
          simp only [Act.put, List.setIfInBounds_toArray]
          dsimp only [List.set_cons_zero, List.set_cons_succ]
          refine zt 1 6 (.int .i64 x) rfl rfl (fun w hSw => by obtain ⟨c0, c1, e0, e1⟩ := HFC.out w hSw; clear hSw; go_simp) hp0 ?_
          simp only [Act.put, List.setIfInBounds_toArray]
          dsimp only [List.set_cons_zero, List.set_cons_succ]
          refine zt 2 7 (.bool true) rfl rfl (fun w hSw => by go_simp) hp0 ?_
          simp only [Act.put, List.setIfInBounds_toArray]
          dsimp only [List.set_cons_zero, List.set_cons_succ]
          refine zt 3 8 (.bool true) rfl rfl (fun w hSw => by go_simp) hp0 ?_
          simp only [Act.put, List.setIfInBounds_toArray]
          dsimp only [List.set_cons_zero, List.set_cons_succ]
          refine zt 4 9 (.pointer (some ⟨B2, 0, none⟩)) rfl rfl (fun w hSw => by go_simp) hp0 ?_
          simp only [Act.put, List.setIfInBounds_toArray]
          dsimp only [List.set_cons_zero, List.set_cons_succ]
          refine zt 5 10 (.int .i64 x) rfl rfl (fun w hSw => by obtain ⟨c0, c1, e0, e1⟩ := HFC.out w hSw; clear hSw; go_simp) hp0 ?_
          simp only [Act.put, List.setIfInBounds_toArray]
          dsimp only [List.set_cons_zero, List.set_cons_succ]
          refine zt 6 11 (.pointer (some ⟨B1, 0, none⟩)) rfl rfl (fun w hSw => by go_simp) hp0 ?_
          simp only [Act.put, List.setIfInBounds_toArray]
          dsimp only [List.set_cons_zero, List.set_cons_succ]
          refine zt 7 12 (.pointer (some ⟨B1, 6, none⟩)) rfl rfl (fun w hSw => by go_simp) hp0 ?_
          simp only [Act.put, List.setIfInBounds_toArray]
          dsimp only [List.set_cons_zero, List.set_cons_succ]
          refine zt 8 13 (.slice oE m cE) rfl rfl (fun w hSw => by obtain ⟨q0, q1, q2, q3, q4, q5, q6, q7, q8, q9, q10, q11⟩ := HFA.out w hSw; clear hSw; go_simp) hp0 ?_
          simp only [Act.put, List.setIfInBounds_toArray]
          dsimp only [List.set_cons_zero, List.set_cons_succ]
          refine zt 9 14 (.int .i64 (m : Int)) rfl rfl (fun w hSw => by go_simp) hp0 ?_
          simp only [Act.put, List.setIfInBounds_toArray]
          dsimp only [List.set_cons_zero, List.set_cons_succ]
          refine zt 10 15 (.bool true) rfl rfl (fun w hSw => by go_simp) hp0 ?_
          simp only [Act.put, List.setIfInBounds_toArray]
          dsimp only [List.set_cons_zero, List.set_cons_succ]
          refine zt 11 16 (.bool true) rfl rfl (fun w hSw => by go_simp) hp0 ?_
          simp only [Act.put, List.setIfInBounds_toArray]
          dsimp only [List.set_cons_zero, List.set_cons_succ]
          refine zt 12 17 (.bool true) rfl rfl (fun w hSw => by go_simp) hp0 ?_
          simp only [Act.put, List.setIfInBounds_toArray]
          dsimp only [List.set_cons_zero, List.set_cons_succ]
          refine zt 13 18 (.pointer (some ⟨B2, 1, none⟩)) rfl rfl (fun w hSw => by go_simp) hp0 ?_
          simp only [Act.put, List.setIfInBounds_toArray]
          dsimp only [List.set_cons_zero, List.set_cons_succ]
          refine zt 14 19 (.int .i64 y) rfl rfl (fun w hSw => by obtain ⟨c0, c1, e0, e1⟩ := HFC.out w hSw; clear hSw; go_simp) hp0 ?_
          simp only [Act.put, List.setIfInBounds_toArray]
          dsimp only [List.set_cons_zero, List.set_cons_succ]
          refine zt 15 20 (.bool true) rfl rfl (fun w hSw => by go_simp) hp0 ?_
          simp only [Act.put, List.setIfInBounds_toArray]
          dsimp only [List.set_cons_zero, List.set_cons_succ]
          refine zt 16 21 (.bool true) rfl rfl (fun w hSw => by go_simp) hp0 ?_
          simp only [Act.put, List.setIfInBounds_toArray]
          dsimp only [List.set_cons_zero, List.set_cons_succ]
          refine zt 17 22 (.bool true) rfl rfl (fun w hSw => by go_simp) hp0 ?_
          simp only [Act.put, List.setIfInBounds_toArray]
          dsimp only [List.set_cons_zero, List.set_cons_succ]
          refine zt 18 23 (.pointer (some ⟨B2, 1, none⟩)) rfl rfl (fun w hSw => by go_simp) hp0 ?_
          simp only [Act.put, List.setIfInBounds_toArray]
          dsimp only [List.set_cons_zero, List.set_cons_succ]
          refine zt 19 24 (.int .i64 y) rfl rfl (fun w hSw => by obtain ⟨c0, c1, e0, e1⟩ := HFC.out w hSw; clear hSw; go_simp) hp0 ?_
          simp only [Act.put, List.setIfInBounds_toArray]
          dsimp only [List.set_cons_zero, List.set_cons_succ]
          refine zt 20 25 (.agg #[.int .i64 F, .int .i64 A, .int .i64 I, .slice oN n cN, .slice oG g cG, .slice oL l cL, .slice oE m cE, .slice oa na ca, .slice ob nb cb, .slice oc nc cc, .slice od nd cd, .int .i64 k]) rfl rfl (fun w hSw => by obtain ⟨q0, q1, q2, q3, q4, q5, q6, q7, q8, q9, q10, q11⟩ := HFA.out w hSw; clear hSw; go_simp) hp0 ?_
          simp only [Act.put, List.setIfInBounds_toArray]
          dsimp only [List.set_cons_zero, List.set_cons_succ]
          refine wpZ_one (i := 21) (by kernel_rfl) rfl (fun K hK => ?_)
          rw [if_pos (show Region.wanted _ _ = true from rfl)]
          go_simp
          refine Calls.mono (HU.out wD) ?_
          rintro e wK1 ⟨rfl, hbK1⟩
          have hpK1 : Below w2.heap.size w2 wK1 := bStep hp0 hbK1
          clear hbK1
          go_wp2_with fail
          refine hK.out _ _ (fun _ => hpK1) ?_
          clear hK K
          refine zt 22 27 (.bool true) rfl rfl (fun w hSw => by go_simp) hpK1 ?_
          simp only [Act.put, List.setIfInBounds_toArray]
          dsimp only [List.set_cons_zero, List.set_cons_succ]
          refine zt 23 28 (.bool true) rfl rfl (fun w hSw => by go_simp) hpK1 ?_
          simp only [Act.put, List.setIfInBounds_toArray]
          dsimp only [List.set_cons_zero, List.set_cons_succ]
          refine zt 24 4 (.bool true) rfl rfl (fun w hSw => by go_simp) hpK1 ?_
          simp only [Act.put, List.setIfInBounds_toArray]
          dsimp only [List.set_cons_zero, List.set_cons_succ]
          refine wpZ_done (by kernel_rfl) ?_ _
          have HBF : Hid (Below w.heap.size w wK1) := bStep HB2.out hpK1
          clear hp0 hpK1
          go_wp2
          go_ret
          exact ⟨by rw [HR.out]; rfl, HBF.out⟩
        · have HR : Hid (r = false) := HRR.out.trans (decide_eq_false (fun h => h4 h.2.2.2))
          go_upto_region 1 with fail
          rw [← hw2]
          try rw [← eB2]
          try rw [← eB1]
          clear hw2 eB1 eB2
          refine wp_region_Z (fun w' => Below w2.heap.size w2 w') 99 (by kernel_rfl) ?_
          obtain ⟨wD, hD⟩ : ∃ z : World, z = w2.drew := ⟨_, rfl⟩
          rw [← hD]
          have hp0 : Below w2.heap.size w2 wD := by rw [hD]; exact (Below.refl _ _).drew
          clear hD
          refine zt 0 5 (.pointer (some ⟨B2, 0, none⟩)) rfl rfl (fun w hSw => by go_simp) hp0 ?_
          simp only [Act.put, List.setIfInBounds_toArray]
          dsimp only [List.set_cons_zero, List.set_cons_succ]
          refine zt 1 6 (.int .i64 x) rfl rfl (fun w hSw => by obtain ⟨c0, c1, e0, e1⟩ := HFC.out w hSw; clear hSw; go_simp) hp0 ?_
          simp only [Act.put, List.setIfInBounds_toArray]
          dsimp only [List.set_cons_zero, List.set_cons_succ]
          refine zt 2 7 (.bool true) rfl rfl (fun w hSw => by go_simp) hp0 ?_
          simp only [Act.put, List.setIfInBounds_toArray]
          dsimp only [List.set_cons_zero, List.set_cons_succ]
          refine zt 3 8 (.bool true) rfl rfl (fun w hSw => by go_simp) hp0 ?_
          simp only [Act.put, List.setIfInBounds_toArray]
          dsimp only [List.set_cons_zero, List.set_cons_succ]
          refine zt 4 9 (.pointer (some ⟨B2, 0, none⟩)) rfl rfl (fun w hSw => by go_simp) hp0 ?_
          simp only [Act.put, List.setIfInBounds_toArray]
          dsimp only [List.set_cons_zero, List.set_cons_succ]
          refine zt 5 10 (.int .i64 x) rfl rfl (fun w hSw => by obtain ⟨c0, c1, e0, e1⟩ := HFC.out w hSw; clear hSw; go_simp) hp0 ?_
          simp only [Act.put, List.setIfInBounds_toArray]
          dsimp only [List.set_cons_zero, List.set_cons_succ]
          refine zt 6 11 (.pointer (some ⟨B1, 0, none⟩)) rfl rfl (fun w hSw => by go_simp) hp0 ?_
          simp only [Act.put, List.setIfInBounds_toArray]
          dsimp only [List.set_cons_zero, List.set_cons_succ]
          refine zt 7 12 (.pointer (some ⟨B1, 6, none⟩)) rfl rfl (fun w hSw => by go_simp) hp0 ?_
          simp only [Act.put, List.setIfInBounds_toArray]
          dsimp only [List.set_cons_zero, List.set_cons_succ]
          refine zt 8 13 (.slice oE m cE) rfl rfl (fun w hSw => by obtain ⟨q0, q1, q2, q3, q4, q5, q6, q7, q8, q9, q10, q11⟩ := HFA.out w hSw; clear hSw; go_simp) hp0 ?_
          simp only [Act.put, List.setIfInBounds_toArray]
          dsimp only [List.set_cons_zero, List.set_cons_succ]
          refine zt 9 14 (.int .i64 (m : Int)) rfl rfl (fun w hSw => by go_simp) hp0 ?_
          simp only [Act.put, List.setIfInBounds_toArray]
          dsimp only [List.set_cons_zero, List.set_cons_succ]
          refine zt 10 15 (.bool true) rfl rfl (fun w hSw => by go_simp) hp0 ?_
          simp only [Act.put, List.setIfInBounds_toArray]
          dsimp only [List.set_cons_zero, List.set_cons_succ]
          refine zt 11 16 (.bool true) rfl rfl (fun w hSw => by go_simp) hp0 ?_
          simp only [Act.put, List.setIfInBounds_toArray]
          dsimp only [List.set_cons_zero, List.set_cons_succ]
          refine zt 12 17 (.bool true) rfl rfl (fun w hSw => by go_simp) hp0 ?_
          simp only [Act.put, List.setIfInBounds_toArray]
          dsimp only [List.set_cons_zero, List.set_cons_succ]
          refine zt 13 18 (.pointer (some ⟨B2, 1, none⟩)) rfl rfl (fun w hSw => by go_simp) hp0 ?_
          simp only [Act.put, List.setIfInBounds_toArray]
          dsimp only [List.set_cons_zero, List.set_cons_succ]
          refine zt 14 19 (.int .i64 y) rfl rfl (fun w hSw => by obtain ⟨c0, c1, e0, e1⟩ := HFC.out w hSw; clear hSw; go_simp) hp0 ?_
          simp only [Act.put, List.setIfInBounds_toArray]
          dsimp only [List.set_cons_zero, List.set_cons_succ]
          refine zt 15 20 (.bool true) rfl rfl (fun w hSw => by go_simp) hp0 ?_
          simp only [Act.put, List.setIfInBounds_toArray]
          dsimp only [List.set_cons_zero, List.set_cons_succ]
          refine zt 16 21 (.bool true) rfl rfl (fun w hSw => by go_simp) hp0 ?_
          simp only [Act.put, List.setIfInBounds_toArray]
          dsimp only [List.set_cons_zero, List.set_cons_succ]
          refine zt 17 22 (.bool true) rfl rfl (fun w hSw => by go_simp) hp0 ?_
          simp only [Act.put, List.setIfInBounds_toArray]
          dsimp only [List.set_cons_zero, List.set_cons_succ]
          refine zt 18 23 (.pointer (some ⟨B2, 1, none⟩)) rfl rfl (fun w hSw => by go_simp) hp0 ?_
          simp only [Act.put, List.setIfInBounds_toArray]
          dsimp only [List.set_cons_zero, List.set_cons_succ]
          refine zt 19 24 (.int .i64 y) rfl rfl (fun w hSw => by obtain ⟨c0, c1, e0, e1⟩ := HFC.out w hSw; clear hSw; go_simp) hp0 ?_
          simp only [Act.put, List.setIfInBounds_toArray]
          dsimp only [List.set_cons_zero, List.set_cons_succ]
          refine zt 20 25 (.agg #[.int .i64 F, .int .i64 A, .int .i64 I, .slice oN n cN, .slice oG g cG, .slice oL l cL, .slice oE m cE, .slice oa na ca, .slice ob nb cb, .slice oc nc cc, .slice od nd cd, .int .i64 k]) rfl rfl (fun w hSw => by obtain ⟨q0, q1, q2, q3, q4, q5, q6, q7, q8, q9, q10, q11⟩ := HFA.out w hSw; clear hSw; go_simp) hp0 ?_
          simp only [Act.put, List.setIfInBounds_toArray]
          dsimp only [List.set_cons_zero, List.set_cons_succ]
          refine wpZ_one (i := 21) (by kernel_rfl) rfl (fun K hK => ?_)
          rw [if_pos (show Region.wanted _ _ = true from rfl)]
          go_simp
          refine Calls.mono (HU.out wD) ?_
          rintro e wK1 ⟨rfl, hbK1⟩
          have hpK1 : Below w2.heap.size w2 wK1 := bStep hp0 hbK1
          clear hbK1
          go_wp2_with fail
          refine hK.out _ _ (fun _ => hpK1) ?_
          clear hK K
          refine zt 22 27 (.bool false) rfl rfl (fun w hSw => by go_simp) hpK1 ?_
          simp only [Act.put, List.setIfInBounds_toArray]
          dsimp only [List.set_cons_zero, List.set_cons_succ]
          refine zt 23 28 (.bool false) rfl rfl (fun w hSw => by go_simp) hpK1 ?_
          simp only [Act.put, List.setIfInBounds_toArray]
          dsimp only [List.set_cons_zero, List.set_cons_succ]
          refine zt 24 4 (.bool false) rfl rfl (fun w hSw => by go_simp) hpK1 ?_
          simp only [Act.put, List.setIfInBounds_toArray]
          dsimp only [List.set_cons_zero, List.set_cons_succ]
          refine wpZ_done (by kernel_rfl) ?_ _
          have HBF : Hid (Below w.heap.size w wK1) := bStep HB2.out hpK1
          clear hp0 hpK1
          go_wp2
          go_ret
          exact ⟨by rw [HR.out]; rfl, HBF.out⟩
      · have HR : Hid (r = false) := HRR.out.trans (decide_eq_false (fun h => h3 h.2.2.1))
        go_upto_region 1 with fail
        rw [← hw2]
        try rw [← eB2]
        try rw [← eB1]
        clear hw2 eB1 eB2
        refine wp_region_Z (fun w' => Below w2.heap.size w2 w') 99 (by kernel_rfl) ?_
        obtain ⟨wD, hD⟩ : ∃ z : World, z = w2.drew := ⟨_, rfl⟩
        rw [← hD]
        have hp0 : Below w2.heap.size w2 wD := by rw [hD]; exact (Below.refl _ _).drew
        clear hD
        refine zt 0 5 (.pointer (some ⟨B2, 0, none⟩)) rfl rfl (fun w hSw => by go_simp) hp0 ?_
        simp only [Act.put, List.setIfInBounds_toArray]
        dsimp only [List.set_cons_zero, List.set_cons_succ]
        refine zt 1 6 (.int .i64 x) rfl rfl (fun w hSw => by obtain ⟨c0, c1, e0, e1⟩ := HFC.out w hSw; clear hSw; go_simp) hp0 ?_
        simp only [Act.put, List.setIfInBounds_toArray]
        dsimp only [List.set_cons_zero, List.set_cons_succ]
        refine zt 2 7 (.bool true) rfl rfl (fun w hSw => by go_simp) hp0 ?_
        simp only [Act.put, List.setIfInBounds_toArray]
        dsimp only [List.set_cons_zero, List.set_cons_succ]
        refine zt 3 8 (.bool true) rfl rfl (fun w hSw => by go_simp) hp0 ?_
        simp only [Act.put, List.setIfInBounds_toArray]
        dsimp only [List.set_cons_zero, List.set_cons_succ]
        refine zt 4 9 (.pointer (some ⟨B2, 0, none⟩)) rfl rfl (fun w hSw => by go_simp) hp0 ?_
        simp only [Act.put, List.setIfInBounds_toArray]
        dsimp only [List.set_cons_zero, List.set_cons_succ]
        refine zt 5 10 (.int .i64 x) rfl rfl (fun w hSw => by obtain ⟨c0, c1, e0, e1⟩ := HFC.out w hSw; clear hSw; go_simp) hp0 ?_
        simp only [Act.put, List.setIfInBounds_toArray]
        dsimp only [List.set_cons_zero, List.set_cons_succ]
        refine zt 6 11 (.pointer (some ⟨B1, 0, none⟩)) rfl rfl (fun w hSw => by go_simp) hp0 ?_
        simp only [Act.put, List.setIfInBounds_toArray]
        dsimp only [List.set_cons_zero, List.set_cons_succ]
        refine zt 7 12 (.pointer (some ⟨B1, 6, none⟩)) rfl rfl (fun w hSw => by go_simp) hp0 ?_
        simp only [Act.put, List.setIfInBounds_toArray]
        dsimp only [List.set_cons_zero, List.set_cons_succ]
        refine zt 8 13 (.slice oE m cE) rfl rfl (fun w hSw => by obtain ⟨q0, q1, q2, q3, q4, q5, q6, q7, q8, q9, q10, q11⟩ := HFA.out w hSw; clear hSw; go_simp) hp0 ?_
        simp only [Act.put, List.setIfInBounds_toArray]
        dsimp only [List.set_cons_zero, List.set_cons_succ]
        refine zt 9 14 (.int .i64 (m : Int)) rfl rfl (fun w hSw => by go_simp) hp0 ?_
        simp only [Act.put, List.setIfInBounds_toArray]
        dsimp only [List.set_cons_zero, List.set_cons_succ]
        refine zt 10 15 (.bool true) rfl rfl (fun w hSw => by go_simp) hp0 ?_
        simp only [Act.put, List.setIfInBounds_toArray]
        dsimp only [List.set_cons_zero, List.set_cons_succ]
        refine zt 11 16 (.bool true) rfl rfl (fun w hSw => by go_simp) hp0 ?_
        simp only [Act.put, List.setIfInBounds_toArray]
        dsimp only [List.set_cons_zero, List.set_cons_succ]
        refine zt 12 17 (.bool true) rfl rfl (fun w hSw => by go_simp) hp0 ?_
        simp only [Act.put, List.setIfInBounds_toArray]
        dsimp only [List.set_cons_zero, List.set_cons_succ]
        refine zt 13 18 (.pointer (some ⟨B2, 1, none⟩)) rfl rfl (fun w hSw => by go_simp) hp0 ?_
        simp only [Act.put, List.setIfInBounds_toArray]
        dsimp only [List.set_cons_zero, List.set_cons_succ]
        refine zt 14 19 (.int .i64 y) rfl rfl (fun w hSw => by obtain ⟨c0, c1, e0, e1⟩ := HFC.out w hSw; clear hSw; go_simp) hp0 ?_
        simp only [Act.put, List.setIfInBounds_toArray]
        dsimp only [List.set_cons_zero, List.set_cons_succ]
        refine zt 15 20 (.bool false) rfl rfl (fun w hSw => by go_simp) hp0 ?_
        simp only [Act.put, List.setIfInBounds_toArray]
        dsimp only [List.set_cons_zero, List.set_cons_succ]
        refine zt 16 21 (.bool false) rfl rfl (fun w hSw => by go_simp) hp0 ?_
        simp only [Act.put, List.setIfInBounds_toArray]
        dsimp only [List.set_cons_zero, List.set_cons_succ]
        refine zt 17 22 (.bool false) rfl rfl (fun w hSw => by go_simp) hp0 ?_
        simp only [Act.put, List.setIfInBounds_toArray]
        dsimp only [List.set_cons_zero, List.set_cons_succ]
        refine zu 18 23 rfl rfl hp0 ?_
        simp only [Act.put, List.setIfInBounds_toArray]
        dsimp only [List.set_cons_zero, List.set_cons_succ]
        refine zu 19 24 rfl rfl hp0 ?_
        simp only [Act.put, List.setIfInBounds_toArray]
        dsimp only [List.set_cons_zero, List.set_cons_succ]
        refine zu 20 25 rfl rfl hp0 ?_
        simp only [Act.put, List.setIfInBounds_toArray]
        dsimp only [List.set_cons_zero, List.set_cons_succ]
        refine zu 21 26 rfl rfl hp0 ?_
        simp only [Act.put, List.setIfInBounds_toArray]
        dsimp only [List.set_cons_zero, List.set_cons_succ]
        refine zu 22 27 rfl rfl hp0 ?_
        simp only [Act.put, List.setIfInBounds_toArray]
        dsimp only [List.set_cons_zero, List.set_cons_succ]
        refine zt 23 28 (.bool false) rfl rfl (fun w hSw => by go_simp) hp0 ?_
        simp only [Act.put, List.setIfInBounds_toArray]
        dsimp only [List.set_cons_zero, List.set_cons_succ]
        refine zt 24 4 (.bool false) rfl rfl (fun w hSw => by go_simp) hp0 ?_
        simp only [Act.put, List.setIfInBounds_toArray]
        dsimp only [List.set_cons_zero, List.set_cons_succ]
        refine wpZ_done (by kernel_rfl) ?_ _
        have HBF : Hid (Below w.heap.size w wD) := bStep HB2.out hp0
        clear hp0
        go_wp2
        go_ret
        exact ⟨by rw [HR.out]; rfl, HBF.out⟩
    · have HR : Hid (r = false) := HRR.out.trans (decide_eq_false (fun h => h2 h.2.1))
      go_upto_region 1 with fail
      rw [← hw2]
      try rw [← eB2]
      try rw [← eB1]
      clear hw2 eB1 eB2
      refine wp_region_Z (fun w' => Below w2.heap.size w2 w') 99 (by kernel_rfl) ?_
      obtain ⟨wD, hD⟩ : ∃ z : World, z = w2.drew := ⟨_, rfl⟩
      rw [← hD]
      have hp0 : Below w2.heap.size w2 wD := by rw [hD]; exact (Below.refl _ _).drew
      clear hD
      refine zt 0 5 (.pointer (some ⟨B2, 0, none⟩)) rfl rfl (fun w hSw => by go_simp) hp0 ?_
      simp only [Act.put, List.setIfInBounds_toArray]
      dsimp only [List.set_cons_zero, List.set_cons_succ]
      refine zt 1 6 (.int .i64 x) rfl rfl (fun w hSw => by obtain ⟨c0, c1, e0, e1⟩ := HFC.out w hSw; clear hSw; go_simp) hp0 ?_
      simp only [Act.put, List.setIfInBounds_toArray]
      dsimp only [List.set_cons_zero, List.set_cons_succ]
      refine zt 2 7 (.bool true) rfl rfl (fun w hSw => by go_simp) hp0 ?_
      simp only [Act.put, List.setIfInBounds_toArray]
      dsimp only [List.set_cons_zero, List.set_cons_succ]
      refine zt 3 8 (.bool true) rfl rfl (fun w hSw => by go_simp) hp0 ?_
      simp only [Act.put, List.setIfInBounds_toArray]
      dsimp only [List.set_cons_zero, List.set_cons_succ]
      refine zt 4 9 (.pointer (some ⟨B2, 0, none⟩)) rfl rfl (fun w hSw => by go_simp) hp0 ?_
      simp only [Act.put, List.setIfInBounds_toArray]
      dsimp only [List.set_cons_zero, List.set_cons_succ]
      refine zt 5 10 (.int .i64 x) rfl rfl (fun w hSw => by obtain ⟨c0, c1, e0, e1⟩ := HFC.out w hSw; clear hSw; go_simp) hp0 ?_
      simp only [Act.put, List.setIfInBounds_toArray]
      dsimp only [List.set_cons_zero, List.set_cons_succ]
      refine zt 6 11 (.pointer (some ⟨B1, 0, none⟩)) rfl rfl (fun w hSw => by go_simp) hp0 ?_
      simp only [Act.put, List.setIfInBounds_toArray]
      dsimp only [List.set_cons_zero, List.set_cons_succ]
      refine zt 7 12 (.pointer (some ⟨B1, 6, none⟩)) rfl rfl (fun w hSw => by go_simp) hp0 ?_
      simp only [Act.put, List.setIfInBounds_toArray]
      dsimp only [List.set_cons_zero, List.set_cons_succ]
      refine zt 8 13 (.slice oE m cE) rfl rfl (fun w hSw => by obtain ⟨q0, q1, q2, q3, q4, q5, q6, q7, q8, q9, q10, q11⟩ := HFA.out w hSw; clear hSw; go_simp) hp0 ?_
      simp only [Act.put, List.setIfInBounds_toArray]
      dsimp only [List.set_cons_zero, List.set_cons_succ]
      refine zt 9 14 (.int .i64 (m : Int)) rfl rfl (fun w hSw => by go_simp) hp0 ?_
      simp only [Act.put, List.setIfInBounds_toArray]
      dsimp only [List.set_cons_zero, List.set_cons_succ]
      refine zt 10 15 (.bool false) rfl rfl (fun w hSw => by go_simp) hp0 ?_
      simp only [Act.put, List.setIfInBounds_toArray]
      dsimp only [List.set_cons_zero, List.set_cons_succ]
      refine zt 11 16 (.bool false) rfl rfl (fun w hSw => by go_simp) hp0 ?_
      simp only [Act.put, List.setIfInBounds_toArray]
      dsimp only [List.set_cons_zero, List.set_cons_succ]
      refine zt 12 17 (.bool false) rfl rfl (fun w hSw => by go_simp) hp0 ?_
      simp only [Act.put, List.setIfInBounds_toArray]
      dsimp only [List.set_cons_zero, List.set_cons_succ]
      refine zu 13 18 rfl rfl hp0 ?_
      simp only [Act.put, List.setIfInBounds_toArray]
      dsimp only [List.set_cons_zero, List.set_cons_succ]
      refine zu 14 19 rfl rfl hp0 ?_
      simp only [Act.put, List.setIfInBounds_toArray]
      dsimp only [List.set_cons_zero, List.set_cons_succ]
      refine zu 15 20 rfl rfl hp0 ?_
      simp only [Act.put, List.setIfInBounds_toArray]
      dsimp only [List.set_cons_zero, List.set_cons_succ]
      refine zt 16 21 (.bool false) rfl rfl (fun w hSw => by go_simp) hp0 ?_
      simp only [Act.put, List.setIfInBounds_toArray]
      dsimp only [List.set_cons_zero, List.set_cons_succ]
      refine zt 17 22 (.bool false) rfl rfl (fun w hSw => by go_simp) hp0 ?_
      simp only [Act.put, List.setIfInBounds_toArray]
      dsimp only [List.set_cons_zero, List.set_cons_succ]
      refine zu 18 23 rfl rfl hp0 ?_
      simp only [Act.put, List.setIfInBounds_toArray]
      dsimp only [List.set_cons_zero, List.set_cons_succ]
      refine zu 19 24 rfl rfl hp0 ?_
      simp only [Act.put, List.setIfInBounds_toArray]
      dsimp only [List.set_cons_zero, List.set_cons_succ]
      refine zu 20 25 rfl rfl hp0 ?_
      simp only [Act.put, List.setIfInBounds_toArray]
      dsimp only [List.set_cons_zero, List.set_cons_succ]
      refine zu 21 26 rfl rfl hp0 ?_
      simp only [Act.put, List.setIfInBounds_toArray]
      dsimp only [List.set_cons_zero, List.set_cons_succ]
      refine zu 22 27 rfl rfl hp0 ?_
      simp only [Act.put, List.setIfInBounds_toArray]
      dsimp only [List.set_cons_zero, List.set_cons_succ]
      refine zt 23 28 (.bool false) rfl rfl (fun w hSw => by go_simp) hp0 ?_
      simp only [Act.put, List.setIfInBounds_toArray]
      dsimp only [List.set_cons_zero, List.set_cons_succ]
      refine zt 24 4 (.bool false) rfl rfl (fun w hSw => by go_simp) hp0 ?_
      simp only [Act.put, List.setIfInBounds_toArray]
      dsimp only [List.set_cons_zero, List.set_cons_succ]
      refine wpZ_done (by kernel_rfl) ?_ _
      have HBF : Hid (Below w.heap.size w wD) := bStep HB2.out hp0
      clear hp0
      go_wp2
      go_ret
      exact ⟨by rw [HR.out]; rfl, HBF.out⟩
  · have HR : Hid (r = false) := HRR.out.trans (decide_eq_false (fun h => h1 h.1))
    go_upto_region 1 with fail
    rw [← hw2]
    try rw [← eB2]
    try rw [← eB1]
    clear hw2 eB1 eB2
    refine wp_region_Z (fun w' => Below w2.heap.size w2 w') 99 (by kernel_rfl) ?_
    obtain ⟨wD, hD⟩ : ∃ z : World, z = w2.drew := ⟨_, rfl⟩
    rw [← hD]
    have hp0 : Below w2.heap.size w2 wD := by rw [hD]; exact (Below.refl _ _).drew
    clear hD
    refine zt 0 5 (.pointer (some ⟨B2, 0, none⟩)) rfl rfl (fun w hSw => by go_simp) hp0 ?_
    simp only [Act.put, List.setIfInBounds_toArray]
    dsimp only [List.set_cons_zero, List.set_cons_succ]
    refine zt 1 6 (.int .i64 x) rfl rfl (fun w hSw => by obtain ⟨c0, c1, e0, e1⟩ := HFC.out w hSw; clear hSw; go_simp) hp0 ?_
    simp only [Act.put, List.setIfInBounds_toArray]
    dsimp only [List.set_cons_zero, List.set_cons_succ]
    refine zt 2 7 (.bool false) rfl rfl (fun w hSw => by go_simp) hp0 ?_
    simp only [Act.put, List.setIfInBounds_toArray]
    dsimp only [List.set_cons_zero, List.set_cons_succ]
    refine zt 3 8 (.bool false) rfl rfl (fun w hSw => by go_simp) hp0 ?_
    simp only [Act.put, List.setIfInBounds_toArray]
    dsimp only [List.set_cons_zero, List.set_cons_succ]
    refine zu 4 9 rfl rfl hp0 ?_
    simp only [Act.put, List.setIfInBounds_toArray]
    dsimp only [List.set_cons_zero, List.set_cons_succ]
    refine zu 5 10 rfl rfl hp0 ?_
    simp only [Act.put, List.setIfInBounds_toArray]
    dsimp only [List.set_cons_zero, List.set_cons_succ]
    refine zu 6 11 rfl rfl hp0 ?_
    simp only [Act.put, List.setIfInBounds_toArray]
    dsimp only [List.set_cons_zero, List.set_cons_succ]
    refine zu 7 12 rfl rfl hp0 ?_
    simp only [Act.put, List.setIfInBounds_toArray]
    dsimp only [List.set_cons_zero, List.set_cons_succ]
    refine zu 8 13 rfl rfl hp0 ?_
    simp only [Act.put, List.setIfInBounds_toArray]
    dsimp only [List.set_cons_zero, List.set_cons_succ]
    refine zu 9 14 rfl rfl hp0 ?_
    simp only [Act.put, List.setIfInBounds_toArray]
    dsimp only [List.set_cons_zero, List.set_cons_succ]
    refine zu 10 15 rfl rfl hp0 ?_
    simp only [Act.put, List.setIfInBounds_toArray]
    dsimp only [List.set_cons_zero, List.set_cons_succ]
    refine zt 11 16 (.bool false) rfl rfl (fun w hSw => by go_simp) hp0 ?_
    simp only [Act.put, List.setIfInBounds_toArray]
    dsimp only [List.set_cons_zero, List.set_cons_succ]
    refine zt 12 17 (.bool false) rfl rfl (fun w hSw => by go_simp) hp0 ?_
    simp only [Act.put, List.setIfInBounds_toArray]
    dsimp only [List.set_cons_zero, List.set_cons_succ]
    refine zu 13 18 rfl rfl hp0 ?_
    simp only [Act.put, List.setIfInBounds_toArray]
    dsimp only [List.set_cons_zero, List.set_cons_succ]
    refine zu 14 19 rfl rfl hp0 ?_
    simp only [Act.put, List.setIfInBounds_toArray]
    dsimp only [List.set_cons_zero, List.set_cons_succ]
    refine zu 15 20 rfl rfl hp0 ?_
    simp only [Act.put, List.setIfInBounds_toArray]
    dsimp only [List.set_cons_zero, List.set_cons_succ]
    refine zt 16 21 (.bool false) rfl rfl (fun w hSw => by go_simp) hp0 ?_
    simp only [Act.put, List.setIfInBounds_toArray]
    dsimp only [List.set_cons_zero, List.set_cons_succ]
    refine zt 17 22 (.bool false) rfl rfl (fun w hSw => by go_simp) hp0 ?_
    simp only [Act.put, List.setIfInBounds_toArray]
    dsimp only [List.set_cons_zero, List.set_cons_succ]
    refine zu 18 23 rfl rfl hp0 ?_
    simp only [Act.put, List.setIfInBounds_toArray]
    dsimp only [List.set_cons_zero, List.set_cons_succ]
    refine zu 19 24 rfl rfl hp0 ?_
    simp only [Act.put, List.setIfInBounds_toArray]
    dsimp only [List.set_cons_zero, List.set_cons_succ]
    refine zu 20 25 rfl rfl hp0 ?_
    simp only [Act.put, List.setIfInBounds_toArray]
    dsimp only [List.set_cons_zero, List.set_cons_succ]
    refine zu 21 26 rfl rfl hp0 ?_
    simp only [Act.put, List.setIfInBounds_toArray]
    dsimp only [List.set_cons_zero, List.set_cons_succ]
    refine zu 22 27 rfl rfl hp0 ?_
    simp only [Act.put, List.setIfInBounds_toArray]
    dsimp only [List.set_cons_zero, List.set_cons_succ]
    refine zt 23 28 (.bool false) rfl rfl (fun w hSw => by go_simp) hp0 ?_
    simp only [Act.put, List.setIfInBounds_toArray]
    dsimp only [List.set_cons_zero, List.set_cons_succ]
    refine zt 24 4 (.bool false) rfl rfl (fun w hSw => by go_simp) hp0 ?_
    simp only [Act.put, List.setIfInBounds_toArray]
    dsimp only [List.set_cons_zero, List.set_cons_succ]
    refine wpZ_done (by kernel_rfl) ?_ _
    have HBF : Hid (Below w.heap.size w wD) := bStep HB2.out hp0
    clear hp0
    go_wp2
    go_ret
    exact ⟨by rw [HR.out]; rfl, HBF.out⟩
end Go.Proofs.YtgldibfpidmfhaaGreatDoor

/- copiesFit of sheet's filled. -/
namespace Go.Proofs.YtgldibfpidmfhaaGreatDoor
open Go.RowKit
/-- A copy's four cells. -/
def cpC (p : Int × Int × Int × Int) (j : Nat) : Value := if j = 0 then .int .i64 p.1 else if j = 1 then .int .i64 p.2.1 else if j = 2 then .int .i64 p.2.2.1 else .int .i64 p.2.2.2
theorem cpC_one (p : Int × Int × Int × Int) (j : Nat) : (cpC p j).oneCell' = true := by
  unfold cpC
  split
  · rfl
  · split
    · rfl
    · split <;> rfl
theorem cpC_cells (a b c d : Int) : cpC (a, b, c, d) 0 = .int .i64 a ∧ cpC (a, b, c, d) 1 = .int .i64 b ∧ cpC (a, b, c, d) 2 = .int .i64 c ∧ cpC (a, b, c, d) 3 = .int .i64 d := ⟨rfl, rfl, rfl, rfl⟩
/-- Copies. -/
def Cps (w : World) (v : Value) (n : Nat) (P : Nat → Int × Int × Int × Int) : Prop := Rs w v 4 n (fun i => cpC (P i))
theorem Cps.below {w w' : World} {v : Value} {n : Nat} {P : Nat → Int × Int × Int × Int} (h : Cps w v n P) (hb : Below w.heap.size w w') : Cps w' v n P := Rs.below h hb
/-- Is it a usable row of one of m columns? -/
def cellB (m : Nat) (k x y : Int) : Bool := decide (0 ≤ x ∧ x < (m : Int) ∧ 0 ≤ y ∧ y < usN k)
def bothB (m : Nat) (k : Int) (p : Int × Int × Int × Int) : Bool := cellB m k p.1 p.2.1 && cellB m k p.2.2.1 p.2.2.2
def copB (nd : Nat) (P : Nat → Int × Int × Int × Int) (m : Nat) (k : Int) : Bool := decide (nd ≤ 256 ∧ ∀ i, i < nd → bothB m k (P i) = true)
/-- A copy, by its place. -/
theorem Cps.at {w : World} {n cn k : Nat} {oa : Option Addr} {P : Nat → Int × Int × Int × Int} {p0 p1 p2 p3 : Int} (h : Cps w (.slice oa n cn) n P) (hk : k < n) (hP : P k = (p0, p1, p2, p3)) : ∃ b o, oa = some ⟨b, o, none⟩ ∧ b < w.heap.size ∧ w.cell? ⟨b, o + k * 4, none⟩ = some (.int .i64 p0) ∧ w.cell? ⟨b, o + k * 4 + 1, none⟩ = some (.int .i64 p1) ∧ w.cell? ⟨b, o + k * 4 + 2, none⟩ = some (.int .i64 p2) ∧ w.cell? ⟨b, o + k * 4 + 3, none⟩ = some (.int .i64 p3) := by
  rcases h with ⟨_, h0⟩ | ⟨b, o, c, hv, _, _, hl, hc⟩
  · omega
  cases hv
  obtain ⟨t0, t1, t2, t3⟩ := cpC_cells p0 p1 p2 p3
  have b0 := hc k hk 0 (by decide); have b1 := hc k hk 1 (by decide); have b2 := hc k hk 2 (by decide); have b3 := hc k hk 3 (by decide)
  dsimp only at b0 b1 b2 b3
  rw [hP] at b0 b1 b2 b3
  rw [t0] at b0; rw [t1] at b1; rw [t2] at b2; rw [t3] at b3
  rw [Nat.add_zero] at b0
  exact ⟨b, o, rfl, hl, b0, b1, b2, b3⟩
set_option maxHeartbeats 4000000 in
set_option maxRecDepth 100000 in
theorem copiesFit_f (F A I : Int) (oN oG oL oE oa ob oc od : Option Addr) (n cN g cG l cL m cE na ca nb cb nc cc nd cd : Nat) (k : Int) (P : Nat → Int × Int × Int × Int) (hnd : nd ≤ 1000000) (w : World) (hP : Cps w (.slice od nd cd) nd P) :
    Calls Tryz.prog 73 #[.agg #[.int .i64 F, .int .i64 A, .int .i64 I, .slice oN n cN, .slice oG g cG, .slice oL l cL, .slice oE m cE, .slice oa na ca, .slice ob nb cb, .slice oc nc cc, .slice od nd cd, .int .i64 k]] w fun e w' => e = .returned (.bool (copB nd P m k)) ∧ Below w.heap.size w w' := by
  obtain ⟨B1, eB1⟩ : ∃ b, b = w.heap.size := ⟨_, rfl⟩
  obtain ⟨w1, hw1⟩ : ∃ z : World, z = w.alloc (.cells #[.int .i64 F, .int .i64 A, .int .i64 I, .slice oN n cN, .slice oG g cG, .slice oL l cL, .slice oE m cE, .slice oa na ca, .slice ob nb cb, .slice oc nc cc, .slice od nd cd, .int .i64 k] 65) := ⟨_, rfl⟩
  have hb1 : Below w.heap.size w w1 := by rw [hw1]; exact bAlloc (Below.refl _ _) _
  have hs : w1.heap[B1]? = some (.cells #[.int .i64 F, .int .i64 A, .int .i64 I, .slice oN n cN, .slice oG g cG, .slice oL l cL, .slice oE m cE, .slice oa na ca, .slice ob nb cb, .slice oc nc cc, .slice od nd cd, .int .i64 k] 65) := by rw [hw1, eB1]; show (w.heap.push _)[w.heap.size]? = _; simp
  have HFA : Hid (∀ w', Below w1.heap.size w1 w' → w'.cell? ⟨B1, 0, none⟩ = some (.int .i64 F) ∧ w'.cell? ⟨B1, 1, none⟩ = some (.int .i64 A) ∧ w'.cell? ⟨B1, 2, none⟩ = some (.int .i64 I) ∧ w'.cell? ⟨B1, 3, none⟩ = some (.slice oN n cN) ∧ w'.cell? ⟨B1, 4, none⟩ = some (.slice oG g cG) ∧ w'.cell? ⟨B1, 5, none⟩ = some (.slice oL l cL) ∧ w'.cell? ⟨B1, 6, none⟩ = some (.slice oE m cE) ∧ w'.cell? ⟨B1, 7, none⟩ = some (.slice oa na ca) ∧ w'.cell? ⟨B1, 8, none⟩ = some (.slice ob nb cb) ∧ w'.cell? ⟨B1, 9, none⟩ = some (.slice oc nc cc) ∧ w'.cell? ⟨B1, 10, none⟩ = some (.slice od nd cd) ∧ w'.cell? ⟨B1, 11, none⟩ = some (.int .i64 k)) := fun w' h => by
    have h1 := (h.block B1 (Array.getElem?_eq_some_iff.1 hs).1).trans hs
    exact ⟨by simp [World.cell?, h1], by simp [World.cell?, h1], by simp [World.cell?, h1], by simp [World.cell?, h1], by simp [World.cell?, h1], by simp [World.cell?, h1], by simp [World.cell?, h1], by simp [World.cell?, h1], by simp [World.cell?, h1], by simp [World.cell?, h1], by simp [World.cell?, h1], by simp [World.cell?, h1]⟩
  have HPW : Hid (∀ w', Below w.heap.size w w' → Cps w' (.slice od nd cd) nd P) := fun w' h => hP.below h
  have HIC : Hid (∀ x y w', Calls Tryz.prog 102 #[.agg #[.int .i64 F, .int .i64 A, .int .i64 I, .slice oN n cN, .slice oG g cG, .slice oL l cL, .slice oE m cE, .slice oa na ca, .slice ob nb cb, .slice oc nc cc, .slice od nd cd, .int .i64 k], .agg #[.int .i64 x, .int .i64 y]] w' fun e w'' => e = .returned (.bool (cellB m k x y)) ∧ Below w'.heap.size w' w'') := fun x y w' => isCell_f F A I oN oG oL oE oa ob oc od n cN g cG l cL m cE na ca nb cb nc cc nd cd k x y w'
  obtain ⟨r, er⟩ : ∃ r, r = copB nd P m k := ⟨_, rfl⟩
  rw [← er]
  have HRR : Hid (r = copB nd P m k) := er
  have HB1 : Hid (Below w.heap.size w w1) := hb1
  clear er hs hb1 hP
  obtain ⟨q0, q1, q2, q3, q4, q5, q6, q7, q8, q9, q10, q11⟩ := HFA.out w1 (Below.refl _ _)
  go_enter Tryz.func73, Tryz.ntmps73
  go_upto_region 1 with fail
  rw [← hw1]
  try rw [← eB1]
  clear hw1 eB1
  by_cases h0 : (256 : Int) < (nd : Int)
  · have HF : Hid (r = false) := HRR.out.trans (decide_eq_false (fun h => by have := h.1; omega))
    go_wp2
    go_ret
    exact ⟨by rw [HF.out]; rfl, HB1.out⟩
  go_wp2
  clear q0 q1 q2 q3 q4 q5 q6 q7 q8 q9 q10 q11
  go_loopw [14] (fun iv wr => ∃ j : Nat, iv = .int .i64 (j : Int) ∧ j ≤ nd ∧ Below w1.heap.size w1 wr ∧ Hid (∀ i, i < j → bothB m k (P i) = true)) (fun iv _ => nd - (intOf iv).toNat)
  case atStart => exact ⟨0, rfl, Nat.zero_le _, Below.refl _ _, fun i hi => by omega⟩
  case round =>
    obtain ⟨j, rfl, hj, hbr, HALL⟩ := hrel
    have HBW : Hid (Below w.heap.size w wr) := bStep HB1.out hbr
    by_cases hlt : j < nd
    · have hji : (j : Int) < (nd : Int) := by omega
      have hj0 : (0 : Int) ≤ (j : Int) := by omega
      obtain ⟨p0, p1, p2, p3, hp⟩ : ∃ p0 p1 p2 p3, P j = (p0, p1, p2, p3) := ⟨_, _, _, _, rfl⟩
      obtain ⟨z1, ez1⟩ : ∃ z, z = cellB m k p0 p1 := ⟨_, rfl⟩
      obtain ⟨z2, ez2⟩ : ∃ z, z = cellB m k p2 p3 := ⟨_, rfl⟩
      have HBB : Hid (bothB m k (P j) = (z1 && z2)) := by show bothB m k (P j) = _; rw [hp, ez1, ez2]; rfl
      have HC1 : Hid (∀ w', Calls Tryz.prog 102 #[.agg #[.int .i64 F, .int .i64 A, .int .i64 I, .slice oN n cN, .slice oG g cG, .slice oL l cL, .slice oE m cE, .slice oa na ca, .slice ob nb cb, .slice oc nc cc, .slice od nd cd, .int .i64 k], .agg #[.int .i64 p0, .int .i64 p1]] w' fun e w'' => e = .returned (.bool z1) ∧ Below w'.heap.size w' w'') := fun w' => by rw [ez1]; exact HIC.out p0 p1 w'
      have HC2 : Hid (∀ w', Calls Tryz.prog 102 #[.agg #[.int .i64 F, .int .i64 A, .int .i64 I, .slice oN n cN, .slice oG g cG, .slice oL l cL, .slice oE m cE, .slice oa na ca, .slice ob nb cb, .slice oc nc cc, .slice od nd cd, .int .i64 k], .agg #[.int .i64 p2, .int .i64 p3]] w' fun e w'' => e = .returned (.bool z2) ∧ Below w'.heap.size w' w'') := fun w' => by rw [ez2]; exact HIC.out p2 p3 w'
      obtain ⟨ab, ao, rfl, lab, c0, c1, c2, c3⟩ := (HPW.out wr HBW.out).at hlt hp
      obtain ⟨B2, eB2⟩ : ∃ b, b = wr.heap.size := ⟨_, rfl⟩
      obtain ⟨w2, hw2⟩ : ∃ z : World, z = wr.alloc (.cells #[.int .i64 p0, .int .i64 p1, .int .i64 p2, .int .i64 p3] 82) := ⟨_, rfl⟩
      have hb2 : Below wr.heap.size wr w2 := by rw [hw2]; exact bAlloc (Below.refl _ _) _
      have hs2 : w2.heap[B2]? = some (.cells #[.int .i64 p0, .int .i64 p1, .int .i64 p2, .int .i64 p3] 82) := by rw [hw2, eB2]; show (wr.heap.push _)[wr.heap.size]? = _; simp
      have HF2 : Hid (∀ w', Below w2.heap.size w2 w' → w'.cell? ⟨B2, 0, none⟩ = some (.int .i64 p0) ∧ w'.cell? ⟨B2, 1, none⟩ = some (.int .i64 p1) ∧ w'.cell? ⟨B2, 2, none⟩ = some (.int .i64 p2) ∧ w'.cell? ⟨B2, 3, none⟩ = some (.int .i64 p3)) := fun w' h => by
        have h1 := (h.block B2 (Array.getElem?_eq_some_iff.1 hs2).1).trans hs2
        exact ⟨by simp [World.cell?, h1], by simp [World.cell?, h1], by simp [World.cell?, h1], by simp [World.cell?, h1]⟩
      have HBR : Hid (Below w1.heap.size w1 w2) := bStep hbr hb2
      clear hp ez1 ez2 hs2 lab hbr hb2
      go_upto_region 6 with fail
      rw [← hw2, ← eB2]
      clear hw2 eB2 c0 c1 c2 c3
      obtain ⟨q0, q1, q2, q3, q4, q5, q6, q7, q8, q9, q10, q11⟩ := HFA.out w2 HBR.out
      obtain ⟨d0, d1, d2, d3⟩ := HF2.out w2 (Below.refl _ _)
      go_wp2_with fail
      refine Calls.mono (HC1.out w2) ?_
      rintro e w4 ⟨rfl, hb4⟩
      have HB4 : Hid (Below w1.heap.size w1 w4) := bStep HBR.out hb4
      clear q0 q1 q2 q3 q4 q5 q6 q7 q8 q9 q10 q11 d0 d1 d2 d3
      cases z1 with
      | false =>
        have HF : Hid (r = false) := HRR.out.trans (decide_eq_false (fun h => by have h1 := h.2 j hlt; rw [HBB.out] at h1; cases h1))
        have HBF : Hid (Below w.heap.size w w4) := bStep HB1.out HB4.out
        clear hb4
        go_wp2
        go_ret
        exact ⟨by rw [HF.out]; rfl, HBF.out⟩
      | true =>
        obtain ⟨q0, q1, q2, q3, q4, q5, q6, q7, q8, q9, q10, q11⟩ := HFA.out w4 HB4.out
        obtain ⟨d0, d1, d2, d3⟩ := HF2.out w4 hb4
        clear hb4
        go_wp2_with fail
        refine Calls.mono (HC2.out w4) ?_
        rintro e w5 ⟨rfl, hb5⟩
        have HB5 : Hid (Below w1.heap.size w1 w5) := bStep HB4.out hb5
        clear q0 q1 q2 q3 q4 q5 q6 q7 q8 q9 q10 q11 d0 d1 d2 d3 hb5
        cases z2 with
        | false =>
          have HF : Hid (r = false) := HRR.out.trans (decide_eq_false (fun h => by have h1 := h.2 j hlt; rw [HBB.out] at h1; cases h1))
          have HBF : Hid (Below w.heap.size w w5) := bStep HB1.out HB5.out
          go_wp2
          go_ret
          exact ⟨by rw [HF.out]; rfl, HBF.out⟩
        | true =>
          have HN : Hid (∀ i, i < j + 1 → bothB m k (P i) = true) := fun i hi => by
            rcases Nat.lt_or_ge i j with h | h
            · exact HALL.out i h
            · rw [show i = j by omega]; exact HBB.out
          go_wp2
          go_roundw
          case measure => simp [intOf]; omega
          case rel => exact ⟨j + 1, by go_num, hlt, HB5.out, HN⟩
    · have hji : ¬ (j : Int) < (nd : Int) := by omega
      have HF : Hid (r = true) := HRR.out.trans (decide_eq_true ⟨by omega, fun i hi => HALL.out i (by omega)⟩)
      clear hbr
      go_wp2
      go_ret
      exact ⟨by rw [HF.out]; rfl, HBW.out⟩
end Go.Proofs.YtgldibfpidmfhaaGreatDoor

