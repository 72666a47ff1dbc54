/- The reference of layer 17: below, rising. -/
import Derived.Test.YtobeeoelfmfpdaaDoorPLUJ
namespace Go.Proofs.YtobeeoelfmfpdaaDoor
open Go.RowKit
set_option maxHeartbeats 4000000 in
set_option maxRecDepth 20000 in
/-- The reference's below. -/
theorem below17_any (A B : Nat) (hA : A < 115792089237316195423570985008687907853269984665640564039457584007913129639936) (hB : B < 115792089237316195423570985008687907853269984665640564039457584007913129639936) (w : World) :
    Calls Tryd.prog 54 #[.agg #[.int .u64 ((limb 0 (A) : Nat) : Int), .int .u64 ((limb 1 (A) : Nat) : Int), .int .u64 ((limb 2 (A) : Nat) : Int), .int .u64 ((limb 3 (A) : Nat) : Int)], .agg #[.int .u64 ((limb 0 (B) : Nat) : Int), .int .u64 ((limb 1 (B) : Nat) : Int), .int .u64 ((limb 2 (B) : Nat) : Int), .int .u64 ((limb 3 (B) : Nat) : Int)]] w fun e w' => e = .returned (.bool (below256 A B)) ∧ Below w.heap.size w w' := by
  go_enter Tryd.func54, Tryd.ntmps54
  go_wp2
  go_loopw [5] (fun i wr => ∃ k : Nat, i = .int .i64 ((k : Int) - 1) ∧ k ≤ 4 ∧ A / 18446744073709551616 ^ k = B / 18446744073709551616 ^ k ∧ Below w.heap.size w wr ∧ Blk wr 24 w.heap.size (fun i => limb i A) ∧ Blk wr 24 (w.heap.size + 1) (fun i => limb i B)) (fun i _ => (intOf i + 1).toNat)
  case atStart =>
    refine ⟨4, rfl, by decide, ?_, ?_, (Blk.newAt _ _ _ (fun i => limb i A) rfl).alloc _, Blk.newAt _ _ _ (fun i => limb i B) (by simp)⟩
    · rw [show (18446744073709551616 : Nat) ^ 4 = 115792089237316195423570985008687907853269984665640564039457584007913129639936 from by decide, Nat.div_eq_of_lt hA, Nat.div_eq_of_lt hB]
    · repeat (first | with_reducible exact Below.refl _ _ | with_reducible refine Below.alloc ?_ (by first | omega | (simp; omega) | simp) _)
  case round =>
    obtain ⟨k, rfl, hk, heq, hbr, bA, bB⟩ := hrel
    by_cases hk0 : k = 0
    · subst hk0
      have he := word_end A B heq
      have HE := (show Hid _ from he)
      clear heq he
      go_wp2
      go_ret
      exact ⟨by rw [HE.out]; rfl, hbr⟩
    · obtain ⟨m, rfl⟩ : ∃ m, k = m + 1 := ⟨k - 1, by omega⟩
      have e1 : ((m + 1 : Nat) : Int) - 1 = (m : Int) := by omega
      rw [e1]
      have hm0 : (0 : Int) ≤ (m : Int) := by omega
      have hmn : (m : Int) < 4 := by omega
      have cA := bA.cell m (by omega)
      have cB := bB.cell m (by omega)
      clear e1
      by_cases hbit : limb m A = limb m B
      · have hs := word_step A B m heq hbit
        rw [hbit] at cA
        have HS := (show Hid _ from hs)
        clear hs heq hbit
        go_wp2_with fail
        go_quiet (fail)
        go_wp2
        go_roundw
        case measure => simp [intOf]
        case rel =>
          exact ⟨m, rfl, by omega, HS.out, below_drewN hbr _, bA, bB⟩
      · have hs := word_less A B m heq hbit
        obtain ⟨a, ea⟩ : ∃ a : Int, a = ((limb m A : Nat) : Int) := ⟨_, rfl⟩
        obtain ⟨b, eb⟩ : ∃ b : Int, b = ((limb m B : Nat) : Int) := ⟨_, rfl⟩
        rw [← ea] at cA hs
        rw [← eb] at cB hs
        have hab : ¬ a = b := by omega
        have hab' : (a != b) = true := by simpa using hab
        have HS := (show Hid _ from hs)
        clear hs heq hbit ea eb hab
        go_wp2_with fail
        go_quiet (fail)
        go_wp2_with fail
        go_quiet (fail)
        go_wp2
        refine bodyPost_ret (v := .bool (decide (a < b))) (by simp [results, Tryd.results54, go_sem]) rfl ⟨by rw [HS.out], ?_⟩
        exact below_drewN (below_drewN hbr _) _
theorem ownsRow_below {w w' : World} {base : Nat} {e : TypeId} {size : Nat} {v : Value} {n : Nat} {xs : List Value} (h : w.ownsRow base e size v n xs) (hb : Below w.heap.size w w') : w'.ownsRow base e size v n xs := by
  obtain ⟨h1, h2⟩ := h
  refine ⟨h1, ?_⟩
  rcases h2 with h2 | ⟨g, cap, cur, h3, h4, h5, h6⟩
  · exact Or.inl h2
  · refine Or.inr ⟨g, cap, cur, h3, h4, ?_, h6⟩
    have hgl : g < w.heap.size := by
      rcases Nat.lt_or_ge g w.heap.size with hl | hl
      · exact hl
      · rw [Array.getElem?_eq_none hl] at h5; cases h5
    rw [hb.block g hgl]; exact h5
/-- v is a list of the call's own: l. -/
def OwnL (w : World) (base : Nat) (v : Value) (l : List Nat) : Prop := w.ownsRow base 24 4 v l.length (els (fun i => l.getD i 0) l.length)
theorem els_push (l : List Nat) (x : Nat) : els (fun i => l.getD i 0) l.length ++ [.int .u64 ((limb 0 x : Nat) : Int), .int .u64 ((limb 1 x : Nat) : Int), .int .u64 ((limb 2 x : Nat) : Int), .int .u64 ((limb 3 x : Nat) : Int)] = els (fun i => (l ++ [x]).getD i 0) (l ++ [x]).length := by
  rw [List.length_append, List.length_singleton, els_succ]
  congr 1
  · refine els_congr (fun i hi => ?_)
    rw [List.getD_eq_getElem?_getD, List.getD_eq_getElem?_getD, List.getElem?_append_left hi]
  · simp [List.getD_eq_getElem?_getD]
theorem OwnL.push {w : World} {base : Nat} {v : Value} {l : List Nat} {x : Nat} (h : w.ownsRow base 24 4 v (l.length + 1) (els (fun i => l.getD i 0) l.length ++ [.int .u64 ((limb 0 x : Nat) : Int), .int .u64 ((limb 1 x : Nat) : Int), .int .u64 ((limb 2 x : Nat) : Int), .int .u64 ((limb 3 x : Nat) : Int)])) : OwnL w base v (l ++ [x]) := by
  unfold OwnL
  rw [els_push] at h
  rw [List.length_append, List.length_singleton] at h ⊢
  exact h
theorem OwnL.es {w : World} {base : Nat} {v : Value} {l : List Nat} (h : OwnL w base v l) : Es w v l.length (fun i => l.getD i 0) := own_Es h
theorem OwnL.below {w w' : World} {base : Nat} {v : Value} {l : List Nat} (h : OwnL w base v l) (hb : Below w.heap.size w w') : OwnL w' base v l := ownsRow_below h hb
theorem OwnL.alloc {w : World} {base : Nat} {v : Value} {l : List Nat} (h : OwnL w base v l) (o : Obj) : OwnL (w.alloc o) base v l := h.below (bAlloc (Below.refl _ _) _)
theorem OwnL.none (w : World) (base : Nat) (hb : base ≤ w.heap.size) : OwnL (w.alloc (.cells #[] 24)) base (.slice (some ⟨w.heap.size, 0, none⟩) 0 0) [] :=
  ⟨rfl, Or.inr ⟨w.heap.size, 0, #[], rfl, hb, new_blockE _ _, Nat.le_refl _, by decide, rfl, rfl⟩⟩
/-- v put into the first j of a list: what there is so far, and whether v is among it. -/
def InsS (v : Nat) (l : List Nat) (j : Nat) (a : List Nat) (p : Bool) : Prop :=
  (p = false ∧ ins v l = a ++ ins v (l.drop j)) ∨ (p = true ∧ ins v l = a ++ l.drop j)
theorem drop_at {l : List Nat} {j : Nat} (h : j < l.length) : l.drop j = l.getD j 0 :: l.drop (j + 1) := by
  rw [List.drop_eq_getElem_cons h, List.getD_eq_getElem?_getD, List.getElem?_eq_getElem h]; rfl
theorem InsS.start (v : Nat) (l : List Nat) : InsS v l 0 [] false := Or.inl ⟨rfl, rfl⟩
theorem InsS.hit {v : Nat} {l : List Nat} {j : Nat} {a : List Nat} (h : InsS v l j a false) (hj : j < l.length) (hv : v < l.getD j 0) : InsS v l (j + 1) ((a ++ [v]) ++ [l.getD j 0]) true := by
  rcases h with ⟨_, h⟩ | ⟨h, _⟩
  · refine Or.inr ⟨rfl, ?_⟩
    rw [h, drop_at hj]
    show a ++ (if v < l.getD j 0 then _ else _) = _
    rw [if_pos hv, List.append_assoc, List.append_assoc]; rfl
  · cases h
theorem InsS.past {v : Nat} {l : List Nat} {j : Nat} {a : List Nat} (h : InsS v l j a false) (hj : j < l.length) (hv : ¬ v < l.getD j 0) : InsS v l (j + 1) (a ++ [l.getD j 0]) false := by
  rcases h with ⟨_, h⟩ | ⟨h, _⟩
  · refine Or.inl ⟨rfl, ?_⟩
    rw [h, drop_at hj]
    show a ++ (if v < l.getD j 0 then _ else _) = _
    rw [if_neg hv, List.append_assoc]; rfl
  · cases h
theorem InsS.on {v : Nat} {l : List Nat} {j : Nat} {a : List Nat} (h : InsS v l j a true) (hj : j < l.length) : InsS v l (j + 1) (a ++ [l.getD j 0]) true := by
  rcases h with ⟨h, _⟩ | ⟨_, h⟩
  · cases h
  · refine Or.inr ⟨rfl, ?_⟩
    rw [h, drop_at hj, List.append_assoc]; rfl
theorem InsS.endF {v : Nat} {l : List Nat} {a : List Nat} (h : InsS v l l.length a false) : a ++ [v] = ins v l := by
  rcases h with ⟨_, h⟩ | ⟨h, _⟩
  · rw [h, List.drop_length]; rfl
  · cases h
theorem InsS.endT {v : Nat} {l : List Nat} {a : List Nat} (h : InsS v l l.length a true) : a = ins v l := by
  rcases h with ⟨h, _⟩ | ⟨_, h⟩
  · cases h
  · rw [h, List.drop_length, List.append_nil]
theorem rsg_step (n : Nat) (f : Nat → Nat) : rsg (fl (n + 1) f) = ins (f n) (rsg (fl n f)) := by
  unfold rsg
  rw [fl_succ, List.foldl_append]; rfl
theorem ownL_base {w : World} {base b2 : Nat} {v : Value} {l : List Nat} (h : OwnL w b2 v l) (hb : base ≤ b2) : OwnL w base v l := by
  obtain ⟨h1, h2⟩ := h
  refine ⟨h1, ?_⟩
  rcases h2 with h2 | ⟨g, c, cur, e1, e2, e3⟩
  · exact Or.inl h2
  · exact Or.inr ⟨g, c, cur, e1, Nat.le_trans hb e2, e3⟩
set_option maxHeartbeats 1000000 in
set_option maxRecDepth 20000 in
/-- The reference's rising. -/
theorem rrising_any (s n cn : Nat) (oi : Option Addr) (f : Nat → Nat) (hs : s < 4) (hn : n ≤ 64) (hf : ∀ i, i < n → f i < 115792089237316195423570985008687907853269984665640564039457584007913129639936) (w : World) (hv : Es w (.slice oi n cn) n f) :
    Calls Tryd.prog 30 #[.int .i64 (s : Int), .slice oi n cn] w fun e w' => (∃ v, e = .returned v ∧ OwnL w' w.heap.size v (rsg (fl n fun i => addP s (f i) 0))) ∧ Below w.heap.size w w' := by
  obtain ⟨i0, hi, hz0, hz1, hz2⟩ := elemInfo
  have HI := (show Hid _ from hi); have HZ := (show Hid _ from And.intro hz0 (And.intro hz1 hz2)); clear hi hz0 hz1 hz2
  have HOF : Hid (∀ a, a < 115792089237316195423570985008687907853269984665640564039457584007913129639936 → ∀ w, Calls Tryd.prog 41 #[.int .i64 (s : Int), .agg #[.int .u64 ((limb 0 (a) : Nat) : Int), .int .u64 ((limb 1 (a) : Nat) : Int), .int .u64 ((limb 2 (a) : Nat) : Int), .int .u64 ((limb 3 (a) : Nat) : Int)]] w fun e w' => e = .returned (.agg #[.int .u64 ((limb 0 (addP s a 0) : Nat) : Int), .int .u64 ((limb 1 (addP s a 0) : Nat) : Int), .int .u64 ((limb 2 (addP s a 0) : Nat) : Int), .int .u64 ((limb 3 (addP s a 0) : Nat) : Int)]) ∧ Below w.heap.size w w') := fun a ha w => by
    have h := ref2Of_any s a hs ha w
    unfold addP
    rw [Nat.add_zero]
    exact h
  have HAM : Hid (∀ a, addP s a 0 < 115792089237316195423570985008687907853269984665640564039457584007913129639936) := fun a => addP_M s a 0
  have HV : Hid (Es w (.slice oi n cn) n f) := hv
  have HF : Hid (∀ i, i < n → f i < 115792089237316195423570985008687907853269984665640564039457584007913129639936) := hf
  have HBW : Hid (∀ a b, a < 115792089237316195423570985008687907853269984665640564039457584007913129639936 → b < 115792089237316195423570985008687907853269984665640564039457584007913129639936 → ∀ w, _) := fun a b ha hb w => below17_any a b ha hb w
  have HRM : Hid (∀ i v, v ∈ rsg (fl i fun i => addP s (f i) 0) → v < 115792089237316195423570985008687907853269984665640564039457584007913129639936) := fun i v hv => rsg_M (fun i _ => addP_M s (f i) 0) v hv
  have hO0 := OwnL.none w w.heap.size (Nat.le_refl _)
  clear hv hf hs
  go_enter Tryd.func30, Tryd.ntmps30
  go_upto_region 2 with fail
  obtain ⟨w0, hw0⟩ : ∃ z : World, z = w.alloc (.cells #[] 24) := ⟨_, rfl⟩
  have hb0 : Below w.heap.size w w0 := by rw [hw0]; exact bAlloc (Below.refl _ _) _
  rw [← hw0] at hO0 ⊢
  clear hw0
  go_wp2
  go_loopw [5, 6] (fun tv iv wr => ∃ (i cm : Nat) (oa : Option Addr), iv = .int .i64 (i : Int) ∧ tv = .slice oa i cm ∧ i ≤ n ∧ OwnL wr w.heap.size (.slice oa i cm) (rsg (fl i fun i => addP s (f i) 0)) ∧ Below w.heap.size w wr) (fun _ iv _ => n - (intOf iv).toNat)
  case atStart => exact ⟨0, 0, _, rfl, rfl, Nat.zero_le _, hO0, hb0⟩
  case round =>
    obtain ⟨i, cm, oa, rfl, rfl, hi, hown, hbr⟩ := hrel
    clear hO0 hb0
    by_cases hlt : i < n
    · have hii : (i : Int) < (n : Int) := by omega
      rcases HV.out.open with ⟨_, h0, _⟩ | ⟨gb, go, rfl, _, _, lgb, hcl⟩
      · omega
      have x0 := (hbr.cell (p := ⟨gb, go + i * 4 + 0, none⟩) lgb).trans (hcl i (by omega) 0 (by decide)); have x1 := (hbr.cell (p := ⟨gb, go + i * 4 + 1, none⟩) lgb).trans (hcl i (by omega) 1 (by decide)); have x2 := (hbr.cell (p := ⟨gb, go + i * 4 + 2, none⟩) lgb).trans (hcl i (by omega) 2 (by decide)); have x3 := (hbr.cell (p := ⟨gb, go + i * 4 + 3, none⟩) lgb).trans (hcl i (by omega) 3 (by decide))
      rw [Nat.add_zero] at x0
      have hO := HOF.out (f i) (HF.out i hlt)
      have hst := rsg_step i (fun i => addP s (f i) 0)
      have hxm := HAM.out (f i)
      obtain ⟨u, eu⟩ : ∃ u, u = f i := ⟨_, rfl⟩
      rw [← eu] at x0 x1 x2 x3 hO hst hxm
      obtain ⟨x, ex⟩ : ∃ x, x = addP s u 0 := ⟨_, rfl⟩
      rw [← ex] at hO hst hxm
      have hlM := HRM.out i
      obtain ⟨l, el⟩ : ∃ l, l = rsg (fl i fun i => addP s (f i) 0) := ⟨_, rfl⟩
      have hll : l.length = i := by rw [el, rsg_len, fl_len]
      rw [← el] at hst hown hlM
      have HLM : Hid (∀ v, v ∈ l → v < 115792089237316195423570985008687907853269984665640564039457584007913129639936) := hlM
      have HST : Hid (rsg (fl (i + 1) fun i => addP s (f i) 0) = ins x l) := hst
      have HXM : Hid (x < 115792089237316195423570985008687907853269984665640564039457584007913129639936) := hxm
      have HOX : Hid (∀ w : World, _) := hO
      have HLL : Hid (l.length = i) := hll
      clear eu ex el hO hst hxm hlM hcl hll
      go_wp2_with fail
      refine (HOX.out wr).mono ?_
      rintro e w2 ⟨rfl, hb2⟩
      have hown2 := hown.below hb2
      have hbw2 := bStep hbr hb2
      clear hown hbr hb2 HOX x0 x1 x2 x3
      go_upto_region 8 with fail
      obtain ⟨wi, hwi⟩ : ∃ z : World, z = w2.alloc (.cells #[.int .u64 ((limb 0 (x) : Nat) : Int), .int .u64 ((limb 1 (x) : Nat) : Int), .int .u64 ((limb 2 (x) : Nat) : Int), .int .u64 ((limb 3 (x) : Nat) : Int)] 24) := ⟨_, rfl⟩
      obtain ⟨N7, e7⟩ : ∃ z, z = w2.heap.size := ⟨_, rfl⟩
      have b7i : Blk wi 24 N7 (fun i => limb i x) := by rw [hwi]; exact Blk.newAt _ _ _ (fun i => limb i x) e7
      have hb2i : Below w2.heap.size w2 wi := by rw [hwi]; exact bAlloc (Below.refl _ _) _
      have howni := hown2.below hb2i
      have hbwi := bStep hbw2 hb2i
      have hON := OwnL.none wi wi.heap.size (Nat.le_refl _)
      obtain ⟨B, eB⟩ : ∃ z, z = wi.heap.size := ⟨_, rfl⟩
      have hlB : w.heap.size ≤ B := by rw [eB]; exact hbwi.size
      obtain ⟨w3, hw3⟩ : ∃ z : World, z = wi.alloc (.cells #[] 24) := ⟨_, rfl⟩
      have hb3 : Below B wi w3 := by rw [hw3, eB]; exact bAlloc (Below.refl _ _) _
      have lB3 : B ≤ w3.heap.size := by rw [eB]; rw [eB] at hb3; exact hb3.size
      rw [← hw3, ← eB] at hON
      rw [← hwi]
      try rw [← e7]
      rw [← hw3]
      have hB1 : N7 + 1 = B := by rw [eB, hwi, e7]; exact (Array.size_push ..).symm
      try rw [hB1]
      try rw [← eB]
      have lN7 : N7 < B := by rw [eB]; exact b7i.lt
      have HOI : Hid (OwnL wi w.heap.size (.slice oa i cm) l ∧ wi.heap.size = B) := ⟨howni, eB.symm⟩
      have HB7 : Hid (Blk wi 24 N7 (fun i => limb i x)) := b7i
      clear hwi e7 hw3 hown2 howni hbw2 hb2i b7i eB
      go_wp2
      go_loopw [8, 9, 10] (fun tv pv jv wr => ∃ (j : Nat) (p : Bool) (a : List Nat), jv = .int .i64 (j : Int) ∧ pv = .bool p ∧ j ≤ i ∧ OwnL wr B tv a ∧ Hid (InsS x l j a p ∧ a.length ≤ 2 * j) ∧ Below B wi wr ∧ B ≤ wr.heap.size) (fun _ _ jv _ => i - (intOf jv).toNat)
      case atStart => exact ⟨0, false, [], rfl, rfl, Nat.zero_le _, hON, ⟨InsS.start _ _, Nat.le_refl _⟩, hb3, lB3⟩
      case round =>
        obtain ⟨j, p, a, rfl, rfl, hj, own, hS, hb, lBwr⟩ := hrel
        clear hON hb3 lB3
        have hal : a.length ≤ 2 * j := hS.out.2
        by_cases hji : j < i
        · have hjm : (j : Int) < (i : Int) := by omega
          rcases (show Es wi (.slice oa i cm) i (fun i => l.getD i 0) from (by have h := HOI.out.1.es; rwa [HLL.out] at h)).open with ⟨_, h0, _⟩ | ⟨ab, ao, rfl, _, _, lab0, hcl⟩
          · omega
          have labB : ab < B := by rw [← HOI.out.2]; exact lab0
          have lab : ab < wr.heap.size := Nat.lt_of_lt_of_le labB lBwr
          have hjl : j < l.length := by rw [HLL.out]; exact hji
          have y0 := (hb.cell (p := ⟨ab, ao + j * 4 + 0, none⟩) labB).trans (hcl j hji 0 (by decide)); have y1 := (hb.cell (p := ⟨ab, ao + j * 4 + 1, none⟩) labB).trans (hcl j hji 1 (by decide)); have y2 := (hb.cell (p := ⟨ab, ao + j * 4 + 2, none⟩) labB).trans (hcl j hji 2 (by decide)); have y3 := (hb.cell (p := ⟨ab, ao + j * 4 + 3, none⟩) labB).trans (hcl j hji 3 (by decide))
          rw [Nat.add_zero] at y0
          have b7 : Blk wr 24 N7 (fun i => limb i x) := HB7.out.below hb lN7
          have HB1 : Hid (∀ a, InsS x l j a false → x < l.getD j 0 → InsS x l (j + 1) ((a ++ [x]) ++ [l.getD j 0]) true) := fun a h hv => h.hit hjl hv
          have HB2 : Hid (∀ a, InsS x l j a false → ¬ x < l.getD j 0 → InsS x l (j + 1) (a ++ [l.getD j 0]) false) := fun a h hv => h.past hjl hv
          have HB3 : Hid (∀ a, InsS x l j a true → InsS x l (j + 1) (a ++ [l.getD j 0]) true) := fun a h => h.on hjl
          have hbl := HBW.out x (l.getD j 0) HXM.out (HLM.out _ (getD_mem hjl))
          obtain ⟨y, ey⟩ : ∃ y, y = l.getD j 0 := ⟨_, rfl⟩
          rw [← ey] at y0 y1 y2 y3 HB1 HB2 HB3 hbl
          clear hcl ey lab0
          cases p
          · obtain ⟨b, eb⟩ : ∃ b, b = below256 x y := ⟨_, rfl⟩
            rw [← eb] at hbl
            have HBL : Hid (∀ w : World, _) := hbl
            have HEB : Hid (b = decide (x < y)) := eb
            clear hbl eb
            go_upto_region 11 with fail
            refine wp_region_Z (fun w' => Below wr.heap.size wr w') 99 (by kernel_rfl) ?_
            obtain ⟨wD, hD⟩ : ∃ z : World, z = wr.drew := ⟨_, rfl⟩
            rw [← hD]
            have hp0 : Below wr.heap.size wr wD := by rw [hD]; exact (Below.refl _ _).drew
            clear hD
            refine zt 0 31 (.bool false) rfl rfl (fun w hSw => by go_simp) hp0 ?_
            simp only [Act.put, List.setIfInBounds_toArray]
            (try dsimp only [List.set_cons_zero, List.set_cons_succ])
            refine zt 1 32 (.bool true) rfl rfl (fun w hSw => by go_simp) hp0 ?_
            simp only [Act.put, List.setIfInBounds_toArray]
            (try dsimp only [List.set_cons_zero, List.set_cons_succ])
            refine zt 2 33 (.bool true) rfl rfl (fun w hSw => by go_simp) hp0 ?_
            simp only [Act.put, List.setIfInBounds_toArray]
            (try dsimp only [List.set_cons_zero, List.set_cons_succ])
            refine zt 3 34 (.agg #[.int .u64 ((limb 0 (x) : Nat) : Int), .int .u64 ((limb 1 (x) : Nat) : Int), .int .u64 ((limb 2 (x) : Nat) : Int), .int .u64 ((limb 3 (x) : Nat) : Int)]) rfl rfl (fun w hSw => by (have qq := (b7.belowAll hSw).cell); clear hSw; go_simp) hp0 ?_
            simp only [Act.put, List.setIfInBounds_toArray]
            (try dsimp only [List.set_cons_zero, List.set_cons_succ])
            refine zt 4 35 (.slice (some ⟨ab, ao, none⟩) i cm) rfl rfl (fun w hSw => by go_simp) hp0 ?_
            simp only [Act.put, List.setIfInBounds_toArray]
            (try dsimp only [List.set_cons_zero, List.set_cons_succ])
            refine zt 5 36 (.int .i64 (j : Int)) rfl rfl (fun w hSw => by go_simp) hp0 ?_
            simp only [Act.put, List.setIfInBounds_toArray]
            (try dsimp only [List.set_cons_zero, List.set_cons_succ])
            refine zt 6 37 (.pointer (some ⟨ab, ao + j * 4, none⟩)) rfl rfl (fun w hSw => by go_simp) hp0 ?_
            simp only [Act.put, List.setIfInBounds_toArray]
            (try dsimp only [List.set_cons_zero, List.set_cons_succ])
            refine zt 7 38 (.agg #[.int .u64 ((limb 0 (y) : Nat) : Int), .int .u64 ((limb 1 (y) : Nat) : Int), .int .u64 ((limb 2 (y) : Nat) : Int), .int .u64 ((limb 3 (y) : Nat) : Int)]) rfl rfl (fun w hSw => by (have q0 := ((hSw).cell (p := ⟨ab, ao + j * 4, none⟩) lab).trans y0; have q1 := ((hSw).cell (p := ⟨ab, ao + j * 4 + 1, none⟩) lab).trans y1; have q2 := ((hSw).cell (p := ⟨ab, ao + j * 4 + 2, none⟩) lab).trans y2; have q3 := ((hSw).cell (p := ⟨ab, ao + j * 4 + 3, none⟩) lab).trans y3); clear hSw; go_simp) hp0 ?_
            simp only [Act.put, List.setIfInBounds_toArray]
            (try dsimp only [List.set_cons_zero, List.set_cons_succ])
            refine wpZ_one (i := 8) (by kernel_rfl) rfl (fun K hK => ?_)
            rw [if_pos (show Region.wanted _ _ = true from rfl)]
            go_simp
            refine Calls.mono (HBL.out wD) ?_
            rintro e wK1 ⟨rfl, hbK1⟩
            have hpK1 : Below wr.heap.size wr wK1 := bStep hp0 hbK1
            clear hbK1
            go_wp2_with fail
            refine hK.out _ _ (fun _ => hpK1) ?_
            clear hK K
            refine zt 9 40 (.bool b) rfl rfl (fun w hSw => by go_simp) hpK1 ?_
            simp only [Act.put, List.setIfInBounds_toArray]
            (try dsimp only [List.set_cons_zero, List.set_cons_succ])
            refine wpZ_done (by kernel_rfl) ?_ _
            have hk5 : Below wr.heap.size wr wK1 := hpK1
            obtain ⟨wa, ewa⟩ : ∃ z, z = wK1 := ⟨_, rfl⟩
            rw [← ewa] at hk5 ⊢
            clear ewa hpK1
            have own5 := own.below hk5
            have lBwa : B ≤ wa.heap.size := Nat.le_trans lBwr hk5.size
            have b75 := b7.belowAll hk5
            have hb5 : Below B wi wa := hb.trans (hk5.mono lBwr)
            have z0 := (hk5.cell (p := ⟨ab, ao + j * 4, none⟩) lab).trans y0; have z1 := (hk5.cell (p := ⟨ab, ao + j * 4 + 1, none⟩) lab).trans y1; have z2 := (hk5.cell (p := ⟨ab, ao + j * 4 + 2, none⟩) lab).trans y2; have z3 := (hk5.cell (p := ⟨ab, ao + j * 4 + 3, none⟩) lab).trans y3
            clear own b7 hb lBwr hk5 HBL y0 y1 y2 y3
            cases b
            · have hv : ¬ x < y := of_decide_eq_false HEB.out.symm
              have HN : Hid (InsS x l (j + 1) (a ++ [y]) false) := HB2.out a hS.out.1 hv
              clear HB1 HB2 HB3 b75 hS hv HEB
              go_wp2_with (first
                | (at_builtin; refine wpList_append_own _ rfl _ _ 25 rfl B 24 i0 (.agg #[.int .u64 0, .int .u64 0, .int .u64 0, .int .u64 0]) 4 32 Tryd.underlying25 HI.out HZ.out.1 HZ.out.2.1 HZ.out.2.2 rfl (by decide) _ _ _ rfl (own5.alloc _) ⟨wa.heap.size, 0, none⟩ 1 1 [.int .u64 ((limb 0 y : Nat) : Int), .int .u64 ((limb 1 y : Nat) : Int), .int .u64 ((limb 2 y : Nat) : Int), .int .u64 ((limb 3 y : Nat) : Int)] rfl rfl ?c1 ?c2 ?c3 ?c4 ?c5 ?_)
                | go_in)
              try
                case c1 =>
                  intro j u hj
                  match j, hj with
                  | 0, hj => simp at hj; subst hj; simp [Addr.add]
                  | 1, hj => simp at hj; subst hj; simp [Addr.add]
                  | 2, hj => simp at hj; subst hj; simp [Addr.add]
                  | 3, hj => simp at hj; subst hj; simp [Addr.add]
                  | j + 4, hj => simp at hj
              case c2 => first | exact ⟨rfl, rfl, rfl, rfl⟩ | (intro u hu; simp at hu; rcases hu with rfl | rfl | rfl | rfl <;> rfl)
              case c3 => unfold maxLen; omega
              case c4 => omega
              case c5 => first | omega | (simp; omega)
              intro v6 w6 own6' hgr6 _
              have own6 := OwnL.push own6'
              have hbg6 : Below B wa w6 := ((Below.refl _ wa).alloc lBwa _).grown hgr6 (by simp; omega) (fun j hj => own_block_geE own5 hj)
              have lBw6 : B ≤ w6.heap.size := Nat.le_trans lBwa hbg6.size
              clear own6' hgr6
              have hb6 : Below B wi w6 := hb5.trans hbg6
              clear z0 z1 z2 z3 own5 hb5 hbg6
              go_wp2
              go_roundw
              case measure => simp [intOf]; omega
              case rel => exact ⟨j + 1, false, a ++ [y], by go_num, rfl, by omega, own6, ⟨HN.out, by rw [List.length_append, List.length_singleton]; omega⟩, hb6, lBw6⟩
            · have hv : x < y := of_decide_eq_true HEB.out.symm
              have HN : Hid (InsS x l (j + 1) ((a ++ [x]) ++ [y]) true) := HB1.out a hS.out.1 hv
              clear HB1 HB2 HB3 hS hv HEB
              have c7 := b75.cell
              go_wp2_with (first
                | (at_builtin; refine wpList_append_own _ rfl _ _ 25 rfl B 24 i0 (.agg #[.int .u64 0, .int .u64 0, .int .u64 0, .int .u64 0]) 4 32 Tryd.underlying25 HI.out HZ.out.1 HZ.out.2.1 HZ.out.2.2 rfl (by decide) _ _ _ rfl (own5.alloc _) ⟨wa.heap.size, 0, none⟩ 1 1 [.int .u64 ((limb 0 x : Nat) : Int), .int .u64 ((limb 1 x : Nat) : Int), .int .u64 ((limb 2 x : Nat) : Int), .int .u64 ((limb 3 x : Nat) : Int)] rfl rfl ?c1 ?c2 ?c3 ?c4 ?c5 ?_)
                | go_in)
              try
                case c1 =>
                  intro j u hj
                  match j, hj with
                  | 0, hj => simp at hj; subst hj; simp [Addr.add]
                  | 1, hj => simp at hj; subst hj; simp [Addr.add]
                  | 2, hj => simp at hj; subst hj; simp [Addr.add]
                  | 3, hj => simp at hj; subst hj; simp [Addr.add]
                  | j + 4, hj => simp at hj
              case c2 => first | exact ⟨rfl, rfl, rfl, rfl⟩ | (intro u hu; simp at hu; rcases hu with rfl | rfl | rfl | rfl <;> rfl)
              case c3 => unfold maxLen; omega
              case c4 => omega
              case c5 => first | omega | (simp; omega)
              intro v6 w6 own6' hgr6 _
              have own6 := OwnL.push own6'
              have hbg6 : Below B wa w6 := ((Below.refl _ wa).alloc lBwa _).grown hgr6 (by simp; omega) (fun j hj => own_block_geE own5 hj)
              have lBw6 : B ≤ w6.heap.size := Nat.le_trans lBwa hbg6.size
              clear own6' hgr6
              have hb6 : Below B wi w6 := hb5.trans hbg6
              have y0 := (hbg6.cell (p := ⟨ab, ao + j * 4, none⟩) labB).trans z0; have y1 := (hbg6.cell (p := ⟨ab, ao + j * 4 + 1, none⟩) labB).trans z1; have y2 := (hbg6.cell (p := ⟨ab, ao + j * 4 + 2, none⟩) labB).trans z2; have y3 := (hbg6.cell (p := ⟨ab, ao + j * 4 + 3, none⟩) labB).trans z3
              obtain ⟨a2, ea2⟩ : ∃ z, z = a ++ [x] := ⟨_, rfl⟩
              have hal2 : a2.length ≤ 2 * j + 1 := by rw [ea2, List.length_append, List.length_singleton]; omega
              rw [← ea2] at own6 HN
              clear z0 z1 z2 z3 own5 hb5 hbg6 c7 b75 ea2
              go_wp2_with (first
                | (at_builtin; refine wpList_append_own _ rfl _ _ 25 rfl B 24 i0 (.agg #[.int .u64 0, .int .u64 0, .int .u64 0, .int .u64 0]) 4 32 Tryd.underlying25 HI.out HZ.out.1 HZ.out.2.1 HZ.out.2.2 rfl (by decide) _ _ _ rfl (own6.alloc _) ⟨w6.heap.size, 0, none⟩ 1 1 [.int .u64 ((limb 0 y : Nat) : Int), .int .u64 ((limb 1 y : Nat) : Int), .int .u64 ((limb 2 y : Nat) : Int), .int .u64 ((limb 3 y : Nat) : Int)] rfl rfl ?c1 ?c2 ?c3 ?c4 ?c5 ?_)
                | go_in)
              try
                case c1 =>
                  intro j u hj
                  match j, hj with
                  | 0, hj => simp at hj; subst hj; simp [Addr.add]
                  | 1, hj => simp at hj; subst hj; simp [Addr.add]
                  | 2, hj => simp at hj; subst hj; simp [Addr.add]
                  | 3, hj => simp at hj; subst hj; simp [Addr.add]
                  | j + 4, hj => simp at hj
              case c2 => first | exact ⟨rfl, rfl, rfl, rfl⟩ | (intro u hu; simp at hu; rcases hu with rfl | rfl | rfl | rfl <;> rfl)
              case c3 => unfold maxLen; omega
              case c4 => omega
              case c5 => first | omega | (simp; omega)
              intro v8 w8 own8' hgr8 _
              have own8 := OwnL.push own8'
              have hbg8 : Below B w6 w8 := ((Below.refl _ w6).alloc lBw6 _).grown hgr8 (by simp; omega) (fun j hj => own_block_geE own6 hj)
              have lBw8 : B ≤ w8.heap.size := Nat.le_trans lBw6 hbg8.size
              clear own8' hgr8
              have hb8 : Below B wi w8 := hb6.trans hbg8
              clear y0 y1 y2 y3 own6 hb6 hbg8
              go_wp2
              go_roundw
              case measure => simp [intOf]; omega
              case rel => exact ⟨j + 1, true, a2 ++ [y], by go_num, rfl, by omega, own8, ⟨HN.out, by rw [List.length_append, List.length_singleton]; omega⟩, hb8, lBw8⟩
          · have HN : Hid (InsS x l (j + 1) (a ++ [y]) true) := HB3.out a hS.out.1
            clear HB1 HB2 HB3 hS hbl
            go_upto_region 11 with fail
            refine wp_region_Z (fun w' => Below wr.heap.size wr w') 99 (by kernel_rfl) ?_
            obtain ⟨wD, hD⟩ : ∃ z : World, z = wr.drew := ⟨_, rfl⟩
            rw [← hD]
            have hp0 : Below wr.heap.size wr wD := by rw [hD]; exact (Below.refl _ _).drew
            clear hD
            refine zt 0 31 (.bool true) rfl rfl (fun w hSw => by go_simp) hp0 ?_
            simp only [Act.put, List.setIfInBounds_toArray]
            (try dsimp only [List.set_cons_zero, List.set_cons_succ])
            refine zt 1 32 (.bool false) rfl rfl (fun w hSw => by go_simp) hp0 ?_
            simp only [Act.put, List.setIfInBounds_toArray]
            (try dsimp only [List.set_cons_zero, List.set_cons_succ])
            refine zt 2 33 (.bool false) rfl rfl (fun w hSw => by go_simp) hp0 ?_
            simp only [Act.put, List.setIfInBounds_toArray]
            (try dsimp only [List.set_cons_zero, List.set_cons_succ])
            refine zu 3 34 rfl rfl hp0 ?_
            simp only [Act.put, List.setIfInBounds_toArray]
            (try dsimp only [List.set_cons_zero, List.set_cons_succ])
            refine zu 4 35 rfl rfl hp0 ?_
            simp only [Act.put, List.setIfInBounds_toArray]
            (try dsimp only [List.set_cons_zero, List.set_cons_succ])
            refine zu 5 36 rfl rfl hp0 ?_
            simp only [Act.put, List.setIfInBounds_toArray]
            (try dsimp only [List.set_cons_zero, List.set_cons_succ])
            refine zu 6 37 rfl rfl hp0 ?_
            simp only [Act.put, List.setIfInBounds_toArray]
            (try dsimp only [List.set_cons_zero, List.set_cons_succ])
            refine zu 7 38 rfl rfl hp0 ?_
            simp only [Act.put, List.setIfInBounds_toArray]
            (try dsimp only [List.set_cons_zero, List.set_cons_succ])
            refine zu 8 39 rfl rfl hp0 ?_
            simp only [Act.put, List.setIfInBounds_toArray]
            (try dsimp only [List.set_cons_zero, List.set_cons_succ])
            refine zt 9 40 (.bool false) rfl rfl (fun w hSw => by go_simp) hp0 ?_
            simp only [Act.put, List.setIfInBounds_toArray]
            (try dsimp only [List.set_cons_zero, List.set_cons_succ])
            refine wpZ_done (by kernel_rfl) ?_ _
            have hk5 : Below wr.heap.size wr wD := hp0
            obtain ⟨wa, ewa⟩ : ∃ z, z = wD := ⟨_, rfl⟩
            rw [← ewa] at hk5 ⊢
            clear ewa hp0
            have own5 := own.below hk5
            have lBwa : B ≤ wa.heap.size := Nat.le_trans lBwr hk5.size
            have hb5 : Below B wi wa := hb.trans (hk5.mono lBwr)
            have z0 := (hk5.cell (p := ⟨ab, ao + j * 4, none⟩) lab).trans y0; have z1 := (hk5.cell (p := ⟨ab, ao + j * 4 + 1, none⟩) lab).trans y1; have z2 := (hk5.cell (p := ⟨ab, ao + j * 4 + 2, none⟩) lab).trans y2; have z3 := (hk5.cell (p := ⟨ab, ao + j * 4 + 3, none⟩) lab).trans y3
            clear own b7 hb lBwr hk5 y0 y1 y2 y3
            go_wp2_with (first
              | (at_builtin; refine wpList_append_own _ rfl _ _ 25 rfl B 24 i0 (.agg #[.int .u64 0, .int .u64 0, .int .u64 0, .int .u64 0]) 4 32 Tryd.underlying25 HI.out HZ.out.1 HZ.out.2.1 HZ.out.2.2 rfl (by decide) _ _ _ rfl (own5.alloc _) ⟨wa.heap.size, 0, none⟩ 1 1 [.int .u64 ((limb 0 y : Nat) : Int), .int .u64 ((limb 1 y : Nat) : Int), .int .u64 ((limb 2 y : Nat) : Int), .int .u64 ((limb 3 y : Nat) : Int)] rfl rfl ?c1 ?c2 ?c3 ?c4 ?c5 ?_)
              | go_in)
            try
              case c1 =>
                intro j u hj
                match j, hj with
                | 0, hj => simp at hj; subst hj; simp [Addr.add]
                | 1, hj => simp at hj; subst hj; simp [Addr.add]
                | 2, hj => simp at hj; subst hj; simp [Addr.add]
                | 3, hj => simp at hj; subst hj; simp [Addr.add]
                | j + 4, hj => simp at hj
            case c2 => first | exact ⟨rfl, rfl, rfl, rfl⟩ | (intro u hu; simp at hu; rcases hu with rfl | rfl | rfl | rfl <;> rfl)
            case c3 => unfold maxLen; omega
            case c4 => omega
            case c5 => first | omega | (simp; omega)
            intro v6 w6 own6' hgr6 _
            have own6 := OwnL.push own6'
            have hbg6 : Below B wa w6 := ((Below.refl _ wa).alloc lBwa _).grown hgr6 (by simp; omega) (fun j hj => own_block_geE own5 hj)
            have lBw6 : B ≤ w6.heap.size := Nat.le_trans lBwa hbg6.size
            clear own6' hgr6
            have hb6 : Below B wi w6 := hb5.trans hbg6
            clear z0 z1 z2 z3 own5 hb5 hbg6
            go_wp2
            go_roundw
            case measure => simp [intOf]; omega
            case rel => exact ⟨j + 1, true, a ++ [y], by go_num, rfl, by omega, own6, ⟨HN.out, by rw [List.length_append, List.length_singleton]; omega⟩, hb6, lBw6⟩
        · have hjm : ¬ (j : Int) < (i : Int) := by omega
          have hjl : j = l.length := by rw [HLL.out]; omega
          have b7 : Blk wr 24 N7 (fun i => limb i x) := HB7.out.below hb lN7
          have hbn : Below w.heap.size w wr := hbwi.trans (hb.mono hlB)
          have HS1 : Hid (InsS x l l.length a p) := by have h := hS.out.1; rw [hjl] at h; exact h
          clear hS hb
          cases p
          · have HEN : Hid (rsg (fl (i + 1) fun i => addP s (f i) 0) = a ++ [x]) := by show _ = _; rw [HST.out]; exact HS1.out.endF.symm
            have c7 := b7.cell
            clear HS1 b7
            go_wp2_with (first
              | (at_builtin; refine wpList_append_own _ rfl _ _ 25 rfl B 24 i0 (.agg #[.int .u64 0, .int .u64 0, .int .u64 0, .int .u64 0]) 4 32 Tryd.underlying25 HI.out HZ.out.1 HZ.out.2.1 HZ.out.2.2 rfl (by decide) _ _ _ rfl (own.alloc _) ⟨wr.heap.size, 0, none⟩ 1 1 [.int .u64 ((limb 0 x : Nat) : Int), .int .u64 ((limb 1 x : Nat) : Int), .int .u64 ((limb 2 x : Nat) : Int), .int .u64 ((limb 3 x : Nat) : Int)] rfl rfl ?c1 ?c2 ?c3 ?c4 ?c5 ?_)
              | go_in)
            try
              case c1 =>
                intro j u hj
                match j, hj with
                | 0, hj => simp at hj; subst hj; simp [Addr.add]
                | 1, hj => simp at hj; subst hj; simp [Addr.add]
                | 2, hj => simp at hj; subst hj; simp [Addr.add]
                | 3, hj => simp at hj; subst hj; simp [Addr.add]
                | j + 4, hj => simp at hj
            case c2 => first | exact ⟨rfl, rfl, rfl, rfl⟩ | (intro u hu; simp at hu; rcases hu with rfl | rfl | rfl | rfl <;> rfl)
            case c3 => unfold maxLen; omega
            case c4 => omega
            case c5 => first | omega | (simp; omega)
            intro v6 w6 own6' hgr6 _
            have own6 := OwnL.push own6'
            have hbg6 : Below B wr w6 := ((Below.refl _ wr).alloc lBwr _).grown hgr6 (by simp; omega) (fun j hj => own_block_geE own hj)
            have lBw6 : B ≤ w6.heap.size := Nat.le_trans lBwr hbg6.size
            clear own6' hgr6
            have hb6 : Below w.heap.size w w6 := hbn.trans (hbg6.mono hlB)
            have hE6 := own6.es
            obtain ⟨oq, cq, rfl⟩ := hE6.shape
            have HO6 : Hid (OwnL w6 w.heap.size (.slice oq (a ++ [x]).length cq) (rsg (fl (i + 1) fun i => addP s (f i) 0))) := by
              show OwnL _ _ _ _
              rw [HEN.out]
              exact ownL_base own6 hlB
            have hlen : (a ++ [x]).length = i + 1 := by rw [← HEN.out, rsg_len, fl_len]
            rw [hlen] at HO6 ⊢
            clear own6 hE6 hbg6 c7 HEN hlen hbn own
            go_wp2
            go_roundw
            case measure => simp [intOf]; omega
            case rel => exact ⟨i + 1, cq, oq, by go_num, rfl, by omega, HO6.out, hb6⟩
          · have HEN : Hid (rsg (fl (i + 1) fun i => addP s (f i) 0) = a) := by show _ = _; rw [HST.out]; exact HS1.out.endT.symm
            have hE6 := own.es
            obtain ⟨oq, cq, rfl⟩ := hE6.shape
            have HO6 : Hid (OwnL wr w.heap.size (.slice oq a.length cq) (rsg (fl (i + 1) fun i => addP s (f i) 0))) := by
              show OwnL _ _ _ _
              rw [HEN.out]
              exact ownL_base own hlB
            have hlen : a.length = i + 1 := by rw [← HEN.out, rsg_len, fl_len]
            rw [hlen] at HO6 ⊢
            clear own hE6 b7 HEN hlen HS1
            go_wp2
            go_roundw
            case measure => simp [intOf]; omega
            case rel => exact ⟨i + 1, cq, oq, by go_num, rfl, by omega, HO6.out, hbn⟩
    · have hii : ¬ (i : Int) < (n : Int) := by omega
      obtain rfl : i = n := by omega
      have HO := (show Hid (OwnL wr w.heap.size _ (rsg (fl _ fun i => addP s (f i) 0))) from hown)
      clear hown
      go_wp2
      go_ret
      exact ⟨⟨_, rfl, HO.out⟩, hbr⟩
end Go.Proofs.YtobeeoelfmfpdaaDoor
