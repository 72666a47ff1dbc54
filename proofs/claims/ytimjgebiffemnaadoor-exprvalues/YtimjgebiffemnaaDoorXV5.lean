/- alive of the eleventh law. -/
import Derived.Test.YtimjgebiffemnaaDoorXV4
import Derived.Test.YtimjgebiffemnaaDoorCS4
namespace Go.Proofs.YtimjgebiffemnaaDoor
open Go.RowKit
open Go.Maps

def liT (i : Nat) : Int × Int × Int × Nat := if i = 0 then (3, 0, 0, 0) else if i = 1 then (1, 0, 0, 3) else (7, 0, 1, 0)
def liQ (_ : Nat) : Int × Int × Int := (3, 0, 0)
def liA (_ : Nat) : Nat := 5
def liV (i : Nat) : Nat := if i = 0 then 5 else if i = 1 then 3 else 15
def liD (i : Nat) : Int := if i = 0 then 1 else if i = 1 then 0 else 1
theorem li_ord : ordB 3 liT = true := by decide +kernel
theorem li_ok : okV 3 liT (fsM liQ liA 1) = true := by decide +kernel
theorem li_val (i : Nat) (hi : i < 3) : vls 0 (fsM liQ liA 1) liT 3 i = liV i := by
  have h : i = 0 ∨ i = 1 ∨ i = 2 := by omega
  rcases h with rfl | rfl | rfl <;> decide +kernel
theorem li_deg (i : Nat) (hi : i < 3) : dgs liT 3 i = liD i := by
  have h : i = 0 ∨ i = 1 ∨ i = 2 := by omega
  rcases h with rfl | rfl | rfl <;> decide +kernel
theorem li_nodes {w : World} {b : Nat} (h : w.heap[b]? = some (.cells #[.int .i64 3, .int .i64 0, .int .i64 0, .int .u64 0, .int .u64 0, .int .u64 0, .int .u64 0, .int .i64 1, .int .i64 0, .int .i64 0, .int .u64 3, .int .u64 0, .int .u64 0, .int .u64 0, .int .i64 7, .int .i64 0, .int .i64 1, .int .u64 0, .int .u64 0, .int .u64 0, .int .u64 0] 46)) : Rs w (.slice (some ⟨b, 0, none⟩) 3 3) 7 3 (fun i => nC (liT i)) := by
  refine BlkR.Rs (t := 46) ⟨_, h, rfl, ?_⟩ (by decide)
  intro i hi j hj
  have hi' : i = 0 ∨ i = 1 ∨ i = 2 := by omega
  have hj' : j = 0 ∨ j = 1 ∨ j = 2 ∨ j = 3 ∨ j = 4 ∨ j = 5 ∨ j = 6 := by omega
  rcases hi' with rfl | rfl | rfl <;> rcases hj' with rfl | rfl | rfl | rfl | rfl | rfl | rfl <;> simp [nC, liT, limb]
theorem li_elems {w : World} {b : Nat} (h : w.heap[b]? = some (.cells #[.int .u64 5, .int .u64 0, .int .u64 0, .int .u64 0, .int .u64 3, .int .u64 0, .int .u64 0, .int .u64 0, .int .u64 15, .int .u64 0, .int .u64 0, .int .u64 0] 44)) : Es w (.slice (some ⟨b, 0, none⟩) 3 3) 3 liV := by
  refine Or.inr ⟨b, 0, 3, rfl, Nat.le_refl _, by decide, (Array.getElem?_eq_some_iff.1 h).1, fun i hi j hj => ?_⟩
  rw [cell_of_block h]
  have hi' : i = 0 ∨ i = 1 ∨ i = 2 := by omega
  have hj' : j = 0 ∨ j = 1 ∨ j = 2 ∨ j = 3 := by omega
  rcases hi' with rfl | rfl | rfl <;> rcases hj' with rfl | rfl | rfl | rfl <;> simp [liV, limb]
theorem li_five {w : World} {b : Nat} (h : w.heap[b]? = some (.cells #[.int .u64 5, .int .u64 0, .int .u64 0, .int .u64 0] 44)) : Es w (.slice (some ⟨b, 0, none⟩) 1 1) 1 liA := by
  refine Or.inr ⟨b, 0, 1, rfl, Nat.le_refl _, by decide, (Array.getElem?_eq_some_iff.1 h).1, fun i hi j hj => ?_⟩
  rw [cell_of_block h]
  have hi' : i = 0 := by omega
  have hj' : j = 0 ∨ j = 1 ∨ j = 2 ∨ j = 3 := by omega
  subst hi'
  rcases hj' with rfl | rfl | rfl | rfl <;> simp [liA, limb]
theorem li_query {w : World} {b : Nat} (h : w.heap[b]? = some (.cells #[.int .i64 3, .int .i64 0, .int .i64 0] 51)) : Qs w (.slice (some ⟨b, 0, none⟩) 1 1) 1 liQ := by
  refine BlkR.Rs (t := 51) ⟨_, h, rfl, ?_⟩ (by decide)
  intro i hi j hj
  have hi' : i = 0 := by omega
  have hj' : j = 0 ∨ j = 1 ∨ j = 2 := by omega
  subst hi'
  rcases hj' with rfl | rfl | rfl <;> simp [qC, liQ]
theorem li_ints {w : World} {b : Nat} (h : w.heap[b]? = some (.cells #[.int .i64 1, .int .i64 0, .int .i64 1] 3)) : Zs w (.slice (some ⟨b, 0, none⟩) 3 3) 3 liD := by
  refine BlkR.Rs (t := 3) (s := 1) ⟨_, h, rfl, ?_⟩ (by decide)
  intro i hi j hj
  have hi' : i = 0 ∨ i = 1 ∨ i = 2 := by omega
  have hj' : j = 0 := by omega
  subst hj'
  rcases hi' with rfl | rfl | rfl <;> simp [liD]
set_option maxHeartbeats 4000000 in
set_option maxRecDepth 100000 in
theorem littleN_any (w : World) : Calls Tryd.prog 26 #[] w fun e w' => (∃ b, e = .returned (.slice (some ⟨b, 0, none⟩) 3 3) ∧ Rs w' (.slice (some ⟨b, 0, none⟩) 3 3) 7 3 (fun i => nC (liT i))) ∧ Below w.heap.size w w' := by
  obtain ⟨w1, ew1⟩ : ∃ x : World, x = w.alloc (.cells #[.int .i64 3, .int .i64 0, .int .i64 0, .int .u64 0, .int .u64 0, .int .u64 0, .int .u64 0, .int .i64 1, .int .i64 0, .int .i64 0, .int .u64 3, .int .u64 0, .int .u64 0, .int .u64 0, .int .i64 7, .int .i64 0, .int .i64 1, .int .u64 0, .int .u64 0, .int .u64 0, .int .u64 0] 46) := ⟨_, rfl⟩
  have hb1 : Below w.heap.size w w1 := by rw [ew1]; exact bAlloc (Below.refl _ _) _
  obtain ⟨b1, eb1⟩ : ∃ x, x = w.heap.size := ⟨_, rfl⟩
  have f1 : w1.heap[b1]? = some (.cells #[.int .i64 3, .int .i64 0, .int .i64 0, .int .u64 0, .int .u64 0, .int .u64 0, .int .u64 0, .int .i64 1, .int .i64 0, .int .i64 0, .int .u64 3, .int .u64 0, .int .u64 0, .int .u64 0, .int .i64 7, .int .i64 0, .int .i64 1, .int .u64 0, .int .u64 0, .int .u64 0, .int .u64 0] 46) := by rw [ew1, eb1]; show (w.heap.push _)[w.heap.size]? = _; simp
  have ha1 : w.alloc (.cells #[.int .i64 3, .int .i64 0, .int .i64 0, .int .u64 0, .int .u64 0, .int .u64 0, .int .u64 0, .int .i64 1, .int .i64 0, .int .i64 0, .int .u64 3, .int .u64 0, .int .u64 0, .int .u64 0, .int .i64 7, .int .i64 0, .int .i64 1, .int .u64 0, .int .u64 0, .int .u64 0, .int .u64 0] 46) = w1 := ew1.symm
  have hs1 : w.heap.size = b1 := eb1.symm
  have HP : Hid ((∃ b, (Ending.returned (.slice (some ⟨b1, 0, none⟩) 3 3)) = .returned (.slice (some ⟨b, 0, none⟩) 3 3) ∧ Rs w1 (.slice (some ⟨b, 0, none⟩) 3 3) 7 3 (fun i => nC (liT i))) ∧ Below w.heap.size w w1) := ⟨⟨b1, rfl, li_nodes f1⟩, hb1⟩
  rw [hs1] at HP ⊢
  clear ew1 eb1 f1 hb1
  go_enter Tryd.func26, Tryd.ntmps26
  go_wp2
  go_ret
  exact HP.out
theorem li_values (w : World) (hg : Glob w) (on oq oa : Option Addr) (hn : Rs w (.slice on 3 3) 7 3 (fun i => nC (liT i))) (hq : Qs w (.slice oq 1 1) 1 liQ) (ha : Es w (.slice oa 1 1) 1 liA) :
    Calls Tryd.prog 22 #[.int .i64 0, .slice on 3 3, .slice oq 1 1, .slice oa 1 1] w fun e w' => (∃ G, e = .returned (.tuple #[.slice (some ⟨G, 0, none⟩) 3 3, .int .i64 0]) ∧ Es w' (.slice (some ⟨G, 0, none⟩) 3 3) 3 liV) ∧ Below w.heap.size w w' := by
  refine (values_in 0 3 3 1 1 1 1 on oq oa liT liQ liA (by decide) (by decide) (by decide) (fun i hi => ?_) (fun i hi => ?_) (fun i hi => by show 5 < _; decide) w hg hn hq ha).mono ?_
  · have h : i = 0 ∨ i = 1 ∨ i = 2 := by omega
    rcases h with rfl | rfl | rfl
    · exact ⟨by decide +kernel, fun _ => ⟨⟨by decide +kernel, by decide +kernel⟩, ⟨by decide +kernel, by decide +kernel⟩⟩⟩
    · exact ⟨by decide +kernel, fun _ => ⟨⟨by decide +kernel, by decide +kernel⟩, ⟨by decide +kernel, by decide +kernel⟩⟩⟩
    · exact ⟨by decide +kernel, fun _ => ⟨⟨by decide +kernel, by decide +kernel⟩, ⟨by decide +kernel, by decide +kernel⟩⟩⟩
  · exact ⟨⟨by show (-9223372036854775808 : Int) ≤ 3; decide, by show (3 : Int) ≤ 9223372036854775807; decide⟩, ⟨by show (-9223372036854775808 : Int) ≤ 0; decide, by show (0 : Int) ≤ 9223372036854775807; decide⟩, ⟨by show (-9223372036854775808 : Int) ≤ 0; decide, by show (0 : Int) ≤ 9223372036854775807; decide⟩⟩
  · rintro e w' ⟨h, hb⟩
    refine ⟨?_, hb⟩
    have hc : valC (ordB 3 liT) (decide (1 = 1)) (okV 3 liT (fsM liQ liA 1)) = 0 := by rw [li_ord, li_ok]; rfl
    rcases h with ⟨_, G, he, _, hB⟩ | ⟨h, _⟩
    · refine ⟨G, he, Or.inr ⟨G, 0, 3, rfl, Nat.le_refl _, by decide, hB.lt, fun i hi j hj => ?_⟩⟩
      rw [Nat.zero_add, hB.cell i hi j hj, li_val i hi]
    · exact absurd hc h
set_option maxHeartbeats 8000000 in
set_option maxRecDepth 100000 in
theorem alive11_any (w : World) (hg : Glob w) : Calls Tryd.prog 8 #[] w fun e w' => e = .returned (.bool true) ∧ Below w.heap.size w w' := by
  have HGW : Hid (∀ w', Below w.heap.size w w' → Glob w') := fun w' h => hg.below h
  clear hg
  go_enter Tryd.func8, Tryd.ntmps8
  go_wp2_with fail
  refine (littleN_any w).mono ?_
  rintro e w1 ⟨⟨b1, rfl, hn1⟩, hb1⟩
  have HN1 : Hid (Rs w1 (.slice (some ⟨b1, 0, none⟩) 3 3) 7 3 (fun i => nC (liT i))) := hn1
  have HB1 : Hid (Below w.heap.size w w1) := hb1
  clear hn1 hb1
  obtain ⟨w2, ew2⟩ : ∃ x : World, x = w1.alloc (.cells #[.int .i64 3, .int .i64 0, .int .i64 0] 51) := ⟨_, rfl⟩
  obtain ⟨b2, eb2⟩ : ∃ x, x = w1.heap.size := ⟨_, rfl⟩
  have hb2 : Below w1.heap.size w1 w2 := by rw [ew2]; exact bAlloc (Below.refl _ _) _
  have f2 : w2.heap[b2]? = some (.cells #[.int .i64 3, .int .i64 0, .int .i64 0] 51) := by rw [ew2, eb2]; show (w1.heap.push _)[w1.heap.size]? = _; simp
  obtain ⟨w3, ew3⟩ : ∃ x : World, x = w2.alloc (.cells #[.int .u64 5, .int .u64 0, .int .u64 0, .int .u64 0] 44) := ⟨_, rfl⟩
  obtain ⟨b3, eb3⟩ : ∃ x, x = w2.heap.size := ⟨_, rfl⟩
  have hb3 : Below w2.heap.size w2 w3 := by rw [ew3]; exact bAlloc (Below.refl _ _) _
  have f3 : w3.heap[b3]? = some (.cells #[.int .u64 5, .int .u64 0, .int .u64 0, .int .u64 0] 44) := by rw [ew3, eb3]; show (w2.heap.push _)[w2.heap.size]? = _; simp
  have ha2 : w1.alloc (.cells #[.int .i64 3, .int .i64 0, .int .i64 0] 51) = w2 := ew2.symm
  have hs2 : w1.heap.size = b2 := eb2.symm
  have ha3 : w2.alloc (.cells #[.int .u64 5, .int .u64 0, .int .u64 0, .int .u64 0] 44) = w3 := ew3.symm
  have hs3 : w2.heap.size = b3 := eb3.symm
  have HB3 : Hid (Below w.heap.size w w3) := bStep HB1.out (hb2.trans (hb3.mono hb2.size))
  have HVL : Hid (Calls _ _ _ _ _) := li_values w3 (HGW.out w3 HB3.out) (some ⟨b1, 0, none⟩) (some ⟨b2, 0, none⟩) (some ⟨b3, 0, none⟩) ((HN1.out.below hb2).below hb3) (li_query ((hb3.block b2 (Array.getElem?_eq_some_iff.1 f2).1).trans f2)) (li_five f3)
  clear ew2 eb2 ew3 eb3 f2 f3 hb2 hb3
  go_wp2_with fail
  refine Calls.mono HVL.out ?_
  rintro e w4 ⟨⟨G, rfl, hv4⟩, hb4⟩
  have HB4 : Hid (Below w.heap.size w w4) := bStep HB3.out hb4
  have HV4 : Hid (Es w4 (.slice (some ⟨G, 0, none⟩) 3 3) 3 liV) := hv4
  clear hv4 hb4 ha2 hs2 ha3 hs3 HVL
  obtain ⟨w5, ew5⟩ : ∃ x : World, x = w4.alloc (.cells #[.int .u64 5, .int .u64 0, .int .u64 0, .int .u64 0, .int .u64 3, .int .u64 0, .int .u64 0, .int .u64 0, .int .u64 15, .int .u64 0, .int .u64 0, .int .u64 0] 44) := ⟨_, rfl⟩
  obtain ⟨b5, eb5⟩ : ∃ x, x = w4.heap.size := ⟨_, rfl⟩
  have hb5 : Below w4.heap.size w4 w5 := by rw [ew5]; exact bAlloc (Below.refl _ _) _
  have f5 : w5.heap[b5]? = some (.cells #[.int .u64 5, .int .u64 0, .int .u64 0, .int .u64 0, .int .u64 3, .int .u64 0, .int .u64 0, .int .u64 0, .int .u64 15, .int .u64 0, .int .u64 0, .int .u64 0] 44) := by rw [ew5, eb5]; show (w4.heap.push _)[w4.heap.size]? = _; simp
  have ha5 : w4.alloc (.cells #[.int .u64 5, .int .u64 0, .int .u64 0, .int .u64 0, .int .u64 3, .int .u64 0, .int .u64 0, .int .u64 0, .int .u64 15, .int .u64 0, .int .u64 0, .int .u64 0] 44) = w5 := ew5.symm
  have hs5 : w4.heap.size = b5 := eb5.symm
  have HB5 : Hid (Below w.heap.size w w5) := bStep HB4.out hb5
  have HSM : Hid (Calls _ _ _ _ _) := sameE_self (.slice (some ⟨G, 0, none⟩) 3 3) (.slice (some ⟨b5, 0, none⟩) 3 3) 3 liV (by decide) (fun i hi => by unfold liV; split; decide; split <;> decide) w5 (HV4.out.below hb5) (li_elems f5)
  clear ew5 eb5 f5 hb5
  go_wp2_with fail
  refine Calls.mono HSM.out ?_
  rintro e w6 ⟨rfl, hb6⟩
  have HB6 : Hid (Below w.heap.size w w6) := bStep HB5.out hb6
  clear hb6 ha5 hs5 HSM
  go_wp2_with fail
  refine (littleN_any w6).mono ?_
  rintro e w7 ⟨⟨b7, rfl, hn7⟩, hb7⟩
  have HB7 : Hid (Below w.heap.size w w7) := bStep HB6.out hb7
  have HDG : Hid (Calls _ _ _ _ _) := degrees_any 3 3 (some ⟨b7, 0, none⟩) liT (by decide) w7 hn7
  clear hb7 hn7
  go_wp2_with fail
  refine Calls.mono HDG.out ?_
  rintro e w8 ⟨hd8, hb8⟩
  have HB8 : Hid (Below w.heap.size w w8) := bStep HB7.out hb8
  rcases hd8 with ⟨_, G8, rfl, _, hB8⟩ | ⟨h, _⟩
  rotate_left
  · exact absurd (h.symm.trans li_ord) (by decide)
  have HZ8 : Hid (Zs w8 (.slice (some ⟨G8, 0, none⟩) 3 3) 3 liD) := (hB8.congr (G := fun i _ => .int .i64 (liD i)) (fun i hi j _ => by rw [li_deg i hi])).Rs (by decide)
  clear hb8 hB8 HDG
  obtain ⟨w9, ew9⟩ : ∃ x : World, x = w8.alloc (.cells #[.int .i64 1, .int .i64 0, .int .i64 1] 3) := ⟨_, rfl⟩
  obtain ⟨b9, eb9⟩ : ∃ x, x = w8.heap.size := ⟨_, rfl⟩
  have hb9 : Below w8.heap.size w8 w9 := by rw [ew9]; exact bAlloc (Below.refl _ _) _
  have f9 : w9.heap[b9]? = some (.cells #[.int .i64 1, .int .i64 0, .int .i64 1] 3) := by rw [ew9, eb9]; show (w8.heap.push _)[w8.heap.size]? = _; simp
  have ha9 : w8.alloc (.cells #[.int .i64 1, .int .i64 0, .int .i64 1] 3) = w9 := ew9.symm
  have hs9 : w8.heap.size = b9 := eb9.symm
  have HB9 : Hid (Below w.heap.size w w9) := bStep HB8.out hb9
  have HSI : Hid (Calls _ _ _ _ _) := sameI_any 3 (.slice (some ⟨G8, 0, none⟩) 3 3) (.slice (some ⟨b9, 0, none⟩) 3 3) liD (by decide) w9 (Or.inl (Zs.below HZ8.out hb9)) (Or.inl (li_ints f9))
  clear ew9 eb9 f9 hb9
  go_wp2_with fail
  refine Calls.mono HSI.out ?_
  rintro e w10 ⟨rfl, hb10⟩
  have HBF : Hid (Below w.heap.size w w10) := bStep HB9.out hb10
  clear hb10 ha9 hs9 HSI
  go_wp2
  go_ret
  exact ⟨rfl, HBF.out⟩

end Go.Proofs.YtimjgebiffemnaaDoor
