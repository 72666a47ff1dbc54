/- great of layer 6; lists and where they lie; DomainMemory. -/
import Derived.Test.YtfkdfngegeeciaaDoorD23
import Derived.Test.YtfkdfngegeeciaaDoorD17
import Derived.Test.YtfkdfngegeeciaaDoorD14
import Derived.Test.YtfkdfngegeeciaaDoorL5
namespace Go.Proofs.YtfkdfngegeeciaaDoor
open Go.RowKit

def Gr6 (e : Ending) : Prop := ∃ b, e = .returned (.bool b)
set_option maxHeartbeats 4000000 in
theorem great6_any (s k : Int) (w : World) : Calls Tryd.prog 10 #[.int .i64 s, .int .i64 k] w fun e w' => Gr6 e ∧ w' = w := by
  by_cases h1 : 6 < k
  · by_cases h2 : k ≤ 9
    · go_enter Tryd.func10, Tryd.ntmps10
      go_wp2
      go_ret
      exact ⟨⟨_, rfl⟩, rfl⟩
    · have h3 : 3 < k := by omega
      go_enter Tryd.func10, Tryd.ntmps10
      go_wp2
      go_ret
      exact ⟨⟨_, rfl⟩, rfl⟩
  · by_cases h3 : 3 < k
    · have h2 : k ≤ 9 := by omega
      go_enter Tryd.func10, Tryd.ntmps10
      go_wp2
      go_ret
      exact ⟨⟨_, rfl⟩, rfl⟩
    · go_enter Tryd.func10, Tryd.ntmps10
      go_wp2
      go_ret
      exact ⟨⟨_, rfl⟩, rfl⟩
/-- A list whose block lies between m and M. -/
def Rg (m M : Nat) (w : World) (v : Value) (n : Nat) (f : Nat → Nat) : Prop :=
  (v = .slice none 0 0 ∧ n = 0) ∨ ∃ (b o c : Nat), v = .slice (some ⟨b, o, none⟩) n c ∧ n ≤ c ∧ c ≤ maxLen ∧ (m ≤ b ∧ b < M) ∧ b < w.heap.size ∧ ∀ i, i < n → ∀ j, j < 4 → w.cell? ⟨b, o + i * 4 + j, none⟩ = some (.int .u64 ((limb j (f i) : Nat) : Int))
theorem Rg.Es {m M n : Nat} {w : World} {v : Value} {f : Nat → Nat} (h : Rg m M w v n f) : Es w v n f := by
  rcases h with h | ⟨b, o, c, h1, h2, h3, _, h5, h6⟩
  · exact Or.inl h
  · exact Or.inr ⟨b, o, c, h1, h2, h3, h5, h6⟩
theorem own_Rg {w : World} {m n : Nat} {v : Value} {f : Nat → Nat} (h : w.ownsRow m 24 4 v n (els f n)) : Rg m w.heap.size w v n f := by
  have h0 := own_ltE h
  rcases own_Es h with h | ⟨b, o, c, rfl, h2, h3, h5, h6⟩
  · exact Or.inl h
  · exact Or.inr ⟨b, o, c, rfl, h2, h3, h0 b rfl, h5, h6⟩
theorem cell_same {w w' : World} {b : Nat} (e : w'.heap[b]? = w.heap[b]?) (o : Nat) : w'.cell? ⟨b, o, none⟩ = w.cell? ⟨b, o, none⟩ := by simp [World.cell?, e]
theorem Rg.keep {m M n : Nat} {w w' : World} {v : Value} {f : Nat → Nat} (h : Rg m M w v n f) (hs : w.heap.size ≤ w'.heap.size) (hb : ∀ b, m ≤ b → b < M → b < w.heap.size → w'.heap[b]? = w.heap[b]?) : Rg m M w' v n f := by
  rcases h with h | ⟨b, o, c, h1, h2, h3, h4, h5, h6⟩
  · exact Or.inl h
  · refine Or.inr ⟨b, o, c, h1, h2, h3, h4, Nat.lt_of_lt_of_le h5 hs, fun i hi j hj => ?_⟩
    rw [cell_same (hb b h4.1 h4.2 h5)]
    exact h6 i hi j hj
theorem Rg.below {m M n : Nat} {w w' : World} {v : Value} {f : Nat → Nat} (h : Rg m M w v n f) (hb : Below w.heap.size w w') : Rg m M w' v n f := h.keep hb.size (fun b _ _ hl => hb.block b hl)
theorem Rg.kept {m M n g : Nat} {w w' : World} {v : Value} {f : Nat → Nat} (h : Rg m M w v n f) (hk : Kept g w w') (hg : g < m ∨ M ≤ g ∨ w.heap.size ≤ g) : Rg m M w' v n f := h.keep hk.size (fun b h1 h2 hl => hk.block b hl (by omega))
/-- An answer: none, or a block of its own. -/
def Ans (m M : Nat) (w : World) (v : Value) (n : Nat) (f : Nat → Nat) : Prop :=
  (v = .slice none 0 0 ∧ n = 0) ∨ ∃ g, v = .slice (some ⟨g, 0, none⟩) n n ∧ m ≤ g ∧ g < M ∧ n ≤ 1000 ∧ BlkE w g n f
theorem Ans.Es {m M n : Nat} {w : World} {v : Value} {f : Nat → Nat} (h : Ans m M w v n f) : Es w v n f := by
  rcases h with h | ⟨g, rfl, _, _, h3, h4⟩
  · exact Or.inl h
  · exact h4.Es (by unfold maxLen; omega)
theorem Ans.below {m M n : Nat} {w w' : World} {v : Value} {f : Nat → Nat} (h : Ans m M w v n f) (hb : Below w.heap.size w w') : Ans m M w' v n f := by
  rcases h with h | ⟨g, h1, h2, h3, h4, h5⟩
  · exact Or.inl h
  · exact Or.inr ⟨g, h1, h2, h3, h4, h5.belowAll hb⟩
theorem Ans.kept {m M n g : Nat} {w w' : World} {v : Value} {f : Nat → Nat} (h : Ans m M w v n f) (hk : Kept g w w') (hg : g < m ∨ M ≤ g ∨ w.heap.size ≤ g) : Ans m M w' v n f := by
  rcases h with h | ⟨b, h1, h2, h3, h4, h5⟩
  · exact Or.inl h
  · exact Or.inr ⟨b, h1, h2, h3, h4, h5.kept (by have := h5.lt; omega) hk⟩
theorem Ans.some {m n g : Nat} {w : World} {f F : Nat → Nat} (h1 : m ≤ g) (hn : n ≤ 1000) (h : BlkE w g n F) (hf : ∀ i, i < n → f i = F i) : Ans m w.heap.size w (.slice (some ⟨g, 0, none⟩) n n) n f := Or.inr ⟨g, rfl, h1, h.lt, hn, h.congr hf⟩
theorem marked_ans {m M n : Nat} {w : World} {v : Value} {f : Nat → Nat} (h : Ans m M w v n f) (hn : n ≤ 1000) : Calls Tryd.prog 27 #[v] w fun e w' => e = .returned (.bool true) ∧ ∃ g, Kept g w w' ∧ (m ≤ g ∧ g < M ∨ w.heap.size ≤ g) := by
  rcases h with ⟨rfl, rfl⟩ | ⟨g, rfl, h2, h3, h4, h5⟩
  · refine (marked_nil w).mono ?_
    rintro e w' ⟨rfl, hb⟩
    exact ⟨rfl, w.heap.size, Kept.ofBelow _ hb, Or.inr (Nat.le_refl _)⟩
  · refine (marked_any n g f hn w h5).mono ?_
    rintro e w' ⟨rfl, hk⟩
    exact ⟨rfl, g, hk, Or.inl ⟨h2, h3⟩⟩
set_option maxHeartbeats 16000000 in
set_option maxRecDepth 20000 in
theorem mem_all (s k : Int) (n c NV NP NC X : Nat) (oa : Option Addr) (f FV FP : Nat → Nat) (hX : X = 1) (hf : ∀ i, i < n → f i < 115792089237316195423570985008687907853269984665640564039457584007913129639936) (hNV : NV ≤ 1000) (hNP : NP ≤ 1000) (hNC : NC ≤ 1000) (hFV : ∀ i, i < NV → FV i < 115792089237316195423570985008687907853269984665640564039457584007913129639936) (hFP : ∀ i, i < NP → FP i < 115792089237316195423570985008687907853269984665640564039457584007913129639936)
    (VL : ∀ w v, GlobD w → Es w v n f → Calls Tryd.prog 19 #[.int .i64 s, .int .i64 k, .agg #[.int .u64 ((limb 0 (X) : Nat) : Int), .int .u64 ((limb 1 (X) : Nat) : Int), .int .u64 ((limb 2 (X) : Nat) : Int), .int .u64 ((limb 3 (X) : Nat) : Int)], v] w fun e w' => (∃ u E1, e = .returned (.tuple #[u, .int .i64 E1]) ∧ Ans w.heap.size w'.heap.size w' u NV FV) ∧ Below w.heap.size w w')
    (CO : ∀ w v, GlobD w → Es w v n f → Calls Tryd.prog 21 #[.int .i64 s, .int .i64 k, .agg #[.int .u64 ((limb 0 (X) : Nat) : Int), .int .u64 ((limb 1 (X) : Nat) : Int), .int .u64 ((limb 2 (X) : Nat) : Int), .int .u64 ((limb 3 (X) : Nat) : Int)], v] w fun e w' => (∃ u FC E1, e = .returned (.tuple #[u, .int .i64 E1]) ∧ Ans w.heap.size w'.heap.size w' u NC FC) ∧ Below w.heap.size w w')
    (PT : ∀ w, GlobD w → Calls Tryd.prog 11 #[.int .i64 s, .int .i64 k] w fun e w' => (∃ u E1, e = .returned (.tuple #[u, .int .i64 E1]) ∧ Ans w.heap.size w'.heap.size w' u NP FP) ∧ Below w.heap.size w w')
    (RV : ∀ w, Es w (.slice oa n c) n f → Calls Tryd.prog 20 #[.int .i64 s, .int .i64 k, .agg #[.int .u64 ((limb 0 (X) : Nat) : Int), .int .u64 ((limb 1 (X) : Nat) : Int), .int .u64 ((limb 2 (X) : Nat) : Int), .int .u64 ((limb 3 (X) : Nat) : Int)], .slice oa n c] w fun e w' => (∃ u E1, e = .returned (.tuple #[u, .int .i64 E1]) ∧ Rg w.heap.size w'.heap.size w' u NV FV) ∧ Below w.heap.size w w')
    (RP : ∀ w, Calls Tryd.prog 12 #[.int .i64 s, .int .i64 k] w fun e w' => (∃ u E1, e = .returned (.tuple #[u, .int .i64 E1]) ∧ Rg w.heap.size w'.heap.size w' u NP FP) ∧ Below w.heap.size w w')
    (w : World) (hg : GlobD w) (hB : Es w (.slice oa n c) n f) : Calls Tryd.prog 8 #[.int .i64 s, .int .i64 k, .slice oa n c] w fun e w' => e = .returned (.bool true) ∧ Below w.heap.size w w' := by
  have HG : Hid (GlobD w) := hg
  have HB : Hid (Es w (.slice oa n c) n f) := hB
  have HVL : Hid (∀ w v, GlobD w → Es w v n f → _) := VL
  have HCO : Hid (∀ w v, GlobD w → Es w v n f → _) := CO
  have HPT : Hid (∀ w, GlobD w → _) := PT
  have HRV : Hid (∀ w, Es w (.slice oa n c) n f → _) := RV
  have HRP : Hid (∀ w, _) := RP
  have HX : Hid (X = 1) := hX
  have HNM : Hid (NV ≤ 1000 ∧ NC ≤ 1000 ∧ NP ≤ 1000) := ⟨hNV, hNC, hNP⟩
  have HF : Hid (∀ i, i < n → f i < 115792089237316195423570985008687907853269984665640564039457584007913129639936) := hf
  have HFV : Hid (∀ i, i < NV → FV i < 115792089237316195423570985008687907853269984665640564039457584007913129639936) := hFV
  have HFP : Hid (∀ i, i < NP → FP i < 115792089237316195423570985008687907853269984665640564039457584007913129639936) := hFP
  clear hg hB VL CO PT RV RP hX hf hNV hNP hNC hFV hFP
  go_enter Tryd.func8, Tryd.ntmps8
  go_wp2_with fail
  refine (alive6_any _ HG.out).mono ?_
  rintro e w1 ⟨rfl, hb_w1⟩
  have O_w1 : Hid (w.heap.size ≤ w1.heap.size) := hb_w1.size
  go_wp2_with fail
  refine (great6_any s k w1).mono ?_
  rintro e w1' ⟨⟨b, rfl⟩, hw⟩
  obtain rfl := hw.symm
  clear hw
  by_cases hbt : b = true
  · subst hbt
    go_wp2
    go_ret
    exact ⟨rfl, hb_w1⟩
  obtain rfl : b = false := by simpa using hbt
  clear hbt
  by_cases hlong : (64 : Int) < (n : Int)
  · go_wp2
    go_ret
    exact ⟨rfl, hb_w1⟩
  have HN : Hid (NV ≤ 1000 ∧ NP ≤ 1000 ∧ n ≤ 1000) := ⟨HNM.out.1, HNM.out.2.2, by omega⟩
  have CP : Hid (∀ w, Es w (.slice oa n c) n f → _) := fun w h => copyE_any n (.slice oa n c) f HN.out.2.2 w h
  go_wp2_with fail
  refine (CP.out w1 (HB.out.below hb_w1)).mono ?_
  rintro e w2 ⟨vo, rfl, oo, hq⟩
  have hb_w2 := bStep hb_w1 hq
  have O_w2 : Hid (w1.heap.size ≤ w2.heap.size) := hq.size
  clear hb_w1
  clear hq
  have Ho_w2 : Hid (Rg w1.heap.size w2.heap.size w2 vo n f) := own_Rg oo
  clear oo
  obtain ⟨w3, hw3⟩ : ∃ z : World, z = w2.alloc (.cells #[.int .u64 1, .int .u64 0, .int .u64 0, .int .u64 0] 24) := ⟨_, rfl⟩
  obtain ⟨N8, e8⟩ : ∃ z, z = w2.heap.size := ⟨_, rfl⟩
  have hq : Below w2.heap.size w2 w3 := by rw [hw3]; exact bAlloc (Below.refl _ _) _
  have b1_w3 : Blk w3 24 N8 (fun i => limb i X) := by
    rw [hw3, HX.out]
    refine (Blk.newAt _ _ _ (fun i => if i = 0 then 1 else 0) e8).congr (fun i hi => ?_)
    have hi4 : i = 0 ∨ i = 1 ∨ i = 2 ∨ i = 3 := by omega
    rcases hi4 with rfl | rfl | rfl | rfl
    · rw [limb_one.1]; rfl
    · rw [limb_one.2.1]; rfl
    · rw [limb_one.2.2.1]; rfl
    · rw [limb_one.2.2.2]; rfl
  go_upto_region 7 with fail
  rw [← hw3, ← e8]
  have Ho_w3 : Hid (Rg w1.heap.size w2.heap.size w3 vo n f) := Ho_w2.out.below hq
  have hb_w3 := bStep hb_w2 hq
  have O_w3 : Hid (w2.heap.size ≤ w3.heap.size) := hq.size
  clear Ho_w2 hb_w2
  clear hw3 e8 hq
  have c1 := b1_w3.cell
  go_wp2_with fail
  refine (HVL.out w3 vo (HG.out.below hb_w3) (Ho_w3.out.Es)).mono ?_
  rintro e w4 ⟨⟨va, ea, rfl, ha⟩, hq⟩
  have Ho_w4 : Hid (Rg w1.heap.size w2.heap.size w4 vo n f) := Ho_w3.out.below hq
  have hb_w4 := bStep hb_w3 hq
  have b1_w4 := b1_w3.belowAll hq
  have O_w4 : Hid (w3.heap.size ≤ w4.heap.size) := hq.size
  clear Ho_w3 hb_w3 b1_w3
  have Ha_w4 : Hid (Ans w3.heap.size w4.heap.size w4 va NV FV) := ha
  clear ha
  clear hq
  clear c1
  have c1 := b1_w4.cell
  go_wp2_with fail
  refine (HVL.out w4 vo (HG.out.below hb_w4) (Ho_w4.out.Es)).mono ?_
  rintro e w5 ⟨⟨vb, eb, rfl, hb⟩, hq⟩
  have Ho_w5 : Hid (Rg w1.heap.size w2.heap.size w5 vo n f) := Ho_w4.out.below hq
  have Ha_w5 : Hid (Ans w3.heap.size w4.heap.size w5 va NV FV) := Ha_w4.out.below hq
  have hb_w5 := bStep hb_w4 hq
  have b1_w5 := b1_w4.belowAll hq
  have O_w5 : Hid (w4.heap.size ≤ w5.heap.size) := hq.size
  clear Ho_w4 Ha_w4 hb_w4 b1_w4
  have Hb_w5 : Hid (Ans w4.heap.size w5.heap.size w5 vb NV FV) := hb
  clear hb
  clear hq
  clear c1
  have c1 := b1_w5.cell
  go_wp2_with fail
  refine (HCO.out w5 vo (HG.out.below hb_w5) (Ho_w5.out.Es)).mono ?_
  rintro e w6 ⟨⟨vc, FC, ec, rfl, hc⟩, hq⟩
  have Ho_w6 : Hid (Rg w1.heap.size w2.heap.size w6 vo n f) := Ho_w5.out.below hq
  have Ha_w6 : Hid (Ans w3.heap.size w4.heap.size w6 va NV FV) := Ha_w5.out.below hq
  have Hb_w6 : Hid (Ans w4.heap.size w5.heap.size w6 vb NV FV) := Hb_w5.out.below hq
  have hb_w6 := bStep hb_w5 hq
  have b1_w6 := b1_w5.belowAll hq
  have O_w6 : Hid (w5.heap.size ≤ w6.heap.size) := hq.size
  clear Ho_w5 Ha_w5 Hb_w5 hb_w5 b1_w5
  have Hc_w6 : Hid (Ans w5.heap.size w6.heap.size w6 vc NC FC) := hc
  clear hc
  clear hq
  clear c1
  go_wp2_with fail
  refine (HPT.out w6 (HG.out.below hb_w6)).mono ?_
  rintro e w7 ⟨⟨vd, ed, rfl, hd⟩, hq⟩
  have Ho_w7 : Hid (Rg w1.heap.size w2.heap.size w7 vo n f) := Ho_w6.out.below hq
  have Ha_w7 : Hid (Ans w3.heap.size w4.heap.size w7 va NV FV) := Ha_w6.out.below hq
  have Hb_w7 : Hid (Ans w4.heap.size w5.heap.size w7 vb NV FV) := Hb_w6.out.below hq
  have Hc_w7 : Hid (Ans w5.heap.size w6.heap.size w7 vc NC FC) := Hc_w6.out.below hq
  have hb_w7 := bStep hb_w6 hq
  have b1_w7 := b1_w6.belowAll hq
  have O_w7 : Hid (w6.heap.size ≤ w7.heap.size) := hq.size
  clear Ho_w6 Ha_w6 Hb_w6 Hc_w6 hb_w6 b1_w6
  have Hd_w7 : Hid (Ans w6.heap.size w7.heap.size w7 vd NP FP) := hd
  clear hd
  clear hq
  go_wp2_with fail
  refine (HPT.out w7 (HG.out.below hb_w7)).mono ?_
  rintro e w8 ⟨⟨ve, ee, rfl, he⟩, hq⟩
  have Ho_w8 : Hid (Rg w1.heap.size w2.heap.size w8 vo n f) := Ho_w7.out.below hq
  have Ha_w8 : Hid (Ans w3.heap.size w4.heap.size w8 va NV FV) := Ha_w7.out.below hq
  have Hb_w8 : Hid (Ans w4.heap.size w5.heap.size w8 vb NV FV) := Hb_w7.out.below hq
  have Hc_w8 : Hid (Ans w5.heap.size w6.heap.size w8 vc NC FC) := Hc_w7.out.below hq
  have Hd_w8 : Hid (Ans w6.heap.size w7.heap.size w8 vd NP FP) := Hd_w7.out.below hq
  have hb_w8 := bStep hb_w7 hq
  have b1_w8 := b1_w7.belowAll hq
  have O_w8 : Hid (w7.heap.size ≤ w8.heap.size) := hq.size
  clear Ho_w7 Ha_w7 Hb_w7 Hc_w7 Hd_w7 hb_w7 b1_w7
  have He_w8 : Hid (Ans w7.heap.size w8.heap.size w8 ve NP FP) := he
  clear he
  clear hq
  have c1 := b1_w8.cell
  go_wp2_with fail
  refine (HRV.out w8 (HB.out.below hb_w8)).mono ?_
  rintro e w9 ⟨⟨vw, ew, rfl, hw⟩, hq⟩
  have Ho_w9 : Hid (Rg w1.heap.size w2.heap.size w9 vo n f) := Ho_w8.out.below hq
  have Ha_w9 : Hid (Ans w3.heap.size w4.heap.size w9 va NV FV) := Ha_w8.out.below hq
  have Hb_w9 : Hid (Ans w4.heap.size w5.heap.size w9 vb NV FV) := Hb_w8.out.below hq
  have Hc_w9 : Hid (Ans w5.heap.size w6.heap.size w9 vc NC FC) := Hc_w8.out.below hq
  have Hd_w9 : Hid (Ans w6.heap.size w7.heap.size w9 vd NP FP) := Hd_w8.out.below hq
  have He_w9 : Hid (Ans w7.heap.size w8.heap.size w9 ve NP FP) := He_w8.out.below hq
  have hb_w9 := bStep hb_w8 hq
  have b1_w9 := b1_w8.belowAll hq
  have O_w9 : Hid (w8.heap.size ≤ w9.heap.size) := hq.size
  clear Ho_w8 Ha_w8 Hb_w8 Hc_w8 Hd_w8 He_w8 hb_w8 b1_w8
  have Hw_w9 : Hid (Rg w8.heap.size w9.heap.size w9 vw NV FV) := hw
  clear hw
  clear hq
  clear c1
  go_wp2_with fail
  refine (HRP.out w9).mono ?_
  rintro e w10 ⟨⟨vp, ep, rfl, hp⟩, hq⟩
  have Ho_w10 : Hid (Rg w1.heap.size w2.heap.size w10 vo n f) := Ho_w9.out.below hq
  have Ha_w10 : Hid (Ans w3.heap.size w4.heap.size w10 va NV FV) := Ha_w9.out.below hq
  have Hb_w10 : Hid (Ans w4.heap.size w5.heap.size w10 vb NV FV) := Hb_w9.out.below hq
  have Hc_w10 : Hid (Ans w5.heap.size w6.heap.size w10 vc NC FC) := Hc_w9.out.below hq
  have Hd_w10 : Hid (Ans w6.heap.size w7.heap.size w10 vd NP FP) := Hd_w9.out.below hq
  have He_w10 : Hid (Ans w7.heap.size w8.heap.size w10 ve NP FP) := He_w9.out.below hq
  have Hw_w10 : Hid (Rg w8.heap.size w9.heap.size w10 vw NV FV) := Hw_w9.out.below hq
  have hb_w10 := bStep hb_w9 hq
  have b1_w10 := b1_w9.belowAll hq
  have O_w10 : Hid (w9.heap.size ≤ w10.heap.size) := hq.size
  clear Ho_w9 Ha_w9 Hb_w9 Hc_w9 Hd_w9 He_w9 Hw_w9 hb_w9 b1_w9
  have Hp_w10 : Hid (Rg w9.heap.size w10.heap.size w10 vp NP FP) := hp
  clear hp
  clear hq
  clear b1_w10
  clear HVL HCO HPT HRV HRP
  go_wp2_with fail
  refine (sameE_self _ _ NV FV (HN.out.1) HFV.out _ (Ha_w10.out.Es) (Hw_w10.out.Es)).mono ?_
  rintro e w11 ⟨rfl, hq⟩
  have Ho_w11 : Hid (Rg w1.heap.size w2.heap.size w11 vo n f) := Ho_w10.out.below hq
  have Ha_w11 : Hid (Ans w3.heap.size w4.heap.size w11 va NV FV) := Ha_w10.out.below hq
  have Hb_w11 : Hid (Ans w4.heap.size w5.heap.size w11 vb NV FV) := Hb_w10.out.below hq
  have Hc_w11 : Hid (Ans w5.heap.size w6.heap.size w11 vc NC FC) := Hc_w10.out.below hq
  have Hd_w11 : Hid (Ans w6.heap.size w7.heap.size w11 vd NP FP) := Hd_w10.out.below hq
  have He_w11 : Hid (Ans w7.heap.size w8.heap.size w11 ve NP FP) := He_w10.out.below hq
  have Hw_w11 : Hid (Rg w8.heap.size w9.heap.size w11 vw NV FV) := Hw_w10.out.below hq
  have Hp_w11 : Hid (Rg w9.heap.size w10.heap.size w11 vp NP FP) := Hp_w10.out.below hq
  have hb_w11 := bStep hb_w10 hq
  have O_w11 : Hid (w10.heap.size ≤ w11.heap.size) := hq.size
  clear Ho_w10 Ha_w10 Hb_w10 Hc_w10 Hd_w10 He_w10 Hw_w10 Hp_w10 hb_w10
  clear hq
  go_wp2_with fail
  refine (marked_ans (Ha_w11.out) (HNM.out.1)).mono ?_
  rintro e w12 ⟨rfl, g, hk, hr⟩
  have hrr : w3.heap.size ≤ g ∧ g < w4.heap.size ∨ w11.heap.size ≤ g := hr
  have Ho_w12 : Hid (Rg w1.heap.size w2.heap.size w12 vo n f) := Ho_w11.out.kept hk (by have h0 := O_w1.out; have h1 := O_w2.out; have h2 := O_w3.out; have h3 := O_w4.out; have h4 := O_w5.out; have h5 := O_w6.out; have h6 := O_w7.out; have h7 := O_w8.out; have h8 := O_w9.out; have h9 := O_w10.out; have h10 := O_w11.out; omega)
  have Hb_w12 : Hid (Ans w4.heap.size w5.heap.size w12 vb NV FV) := Hb_w11.out.kept hk (by have h0 := O_w1.out; have h1 := O_w2.out; have h2 := O_w3.out; have h3 := O_w4.out; have h4 := O_w5.out; have h5 := O_w6.out; have h6 := O_w7.out; have h7 := O_w8.out; have h8 := O_w9.out; have h9 := O_w10.out; have h10 := O_w11.out; omega)
  have Hc_w12 : Hid (Ans w5.heap.size w6.heap.size w12 vc NC FC) := Hc_w11.out.kept hk (by have h0 := O_w1.out; have h1 := O_w2.out; have h2 := O_w3.out; have h3 := O_w4.out; have h4 := O_w5.out; have h5 := O_w6.out; have h6 := O_w7.out; have h7 := O_w8.out; have h8 := O_w9.out; have h9 := O_w10.out; have h10 := O_w11.out; omega)
  have Hd_w12 : Hid (Ans w6.heap.size w7.heap.size w12 vd NP FP) := Hd_w11.out.kept hk (by have h0 := O_w1.out; have h1 := O_w2.out; have h2 := O_w3.out; have h3 := O_w4.out; have h4 := O_w5.out; have h5 := O_w6.out; have h6 := O_w7.out; have h7 := O_w8.out; have h8 := O_w9.out; have h9 := O_w10.out; have h10 := O_w11.out; omega)
  have He_w12 : Hid (Ans w7.heap.size w8.heap.size w12 ve NP FP) := He_w11.out.kept hk (by have h0 := O_w1.out; have h1 := O_w2.out; have h2 := O_w3.out; have h3 := O_w4.out; have h4 := O_w5.out; have h5 := O_w6.out; have h6 := O_w7.out; have h7 := O_w8.out; have h8 := O_w9.out; have h9 := O_w10.out; have h10 := O_w11.out; omega)
  have Hw_w12 : Hid (Rg w8.heap.size w9.heap.size w12 vw NV FV) := Hw_w11.out.kept hk (by have h0 := O_w1.out; have h1 := O_w2.out; have h2 := O_w3.out; have h3 := O_w4.out; have h4 := O_w5.out; have h5 := O_w6.out; have h6 := O_w7.out; have h7 := O_w8.out; have h8 := O_w9.out; have h9 := O_w10.out; have h10 := O_w11.out; omega)
  have Hp_w12 : Hid (Rg w9.heap.size w10.heap.size w12 vp NP FP) := Hp_w11.out.kept hk (by have h0 := O_w1.out; have h1 := O_w2.out; have h2 := O_w3.out; have h3 := O_w4.out; have h4 := O_w5.out; have h5 := O_w6.out; have h6 := O_w7.out; have h7 := O_w8.out; have h8 := O_w9.out; have h9 := O_w10.out; have h10 := O_w11.out; omega)
  have hb_w12 := bKept hb_w11 (by have h0 := O_w1.out; have h1 := O_w2.out; have h2 := O_w3.out; have h3 := O_w4.out; have h4 := O_w5.out; have h5 := O_w6.out; have h6 := O_w7.out; have h7 := O_w8.out; have h8 := O_w9.out; have h9 := O_w10.out; have h10 := O_w11.out; have hz := hb_w11.size; omega) hk
  have O_w12 : Hid (w11.heap.size ≤ w12.heap.size) := hk.size
  clear Ho_w11 Ha_w11 Hb_w11 Hc_w11 Hd_w11 He_w11 Hw_w11 Hp_w11 hb_w11 hk hr hrr
  go_wp2_with fail
  refine (marked_ans (Hc_w12.out) (HNM.out.2.1)).mono ?_
  rintro e w13 ⟨rfl, g, hk, hr⟩
  have hrr : w5.heap.size ≤ g ∧ g < w6.heap.size ∨ w12.heap.size ≤ g := hr
  have Ho_w13 : Hid (Rg w1.heap.size w2.heap.size w13 vo n f) := Ho_w12.out.kept hk (by have h0 := O_w1.out; have h1 := O_w2.out; have h2 := O_w3.out; have h3 := O_w4.out; have h4 := O_w5.out; have h5 := O_w6.out; have h6 := O_w7.out; have h7 := O_w8.out; have h8 := O_w9.out; have h9 := O_w10.out; have h10 := O_w11.out; have h11 := O_w12.out; omega)
  have Hb_w13 : Hid (Ans w4.heap.size w5.heap.size w13 vb NV FV) := Hb_w12.out.kept hk (by have h0 := O_w1.out; have h1 := O_w2.out; have h2 := O_w3.out; have h3 := O_w4.out; have h4 := O_w5.out; have h5 := O_w6.out; have h6 := O_w7.out; have h7 := O_w8.out; have h8 := O_w9.out; have h9 := O_w10.out; have h10 := O_w11.out; have h11 := O_w12.out; omega)
  have Hd_w13 : Hid (Ans w6.heap.size w7.heap.size w13 vd NP FP) := Hd_w12.out.kept hk (by have h0 := O_w1.out; have h1 := O_w2.out; have h2 := O_w3.out; have h3 := O_w4.out; have h4 := O_w5.out; have h5 := O_w6.out; have h6 := O_w7.out; have h7 := O_w8.out; have h8 := O_w9.out; have h9 := O_w10.out; have h10 := O_w11.out; have h11 := O_w12.out; omega)
  have He_w13 : Hid (Ans w7.heap.size w8.heap.size w13 ve NP FP) := He_w12.out.kept hk (by have h0 := O_w1.out; have h1 := O_w2.out; have h2 := O_w3.out; have h3 := O_w4.out; have h4 := O_w5.out; have h5 := O_w6.out; have h6 := O_w7.out; have h7 := O_w8.out; have h8 := O_w9.out; have h9 := O_w10.out; have h10 := O_w11.out; have h11 := O_w12.out; omega)
  have Hw_w13 : Hid (Rg w8.heap.size w9.heap.size w13 vw NV FV) := Hw_w12.out.kept hk (by have h0 := O_w1.out; have h1 := O_w2.out; have h2 := O_w3.out; have h3 := O_w4.out; have h4 := O_w5.out; have h5 := O_w6.out; have h6 := O_w7.out; have h7 := O_w8.out; have h8 := O_w9.out; have h9 := O_w10.out; have h10 := O_w11.out; have h11 := O_w12.out; omega)
  have Hp_w13 : Hid (Rg w9.heap.size w10.heap.size w13 vp NP FP) := Hp_w12.out.kept hk (by have h0 := O_w1.out; have h1 := O_w2.out; have h2 := O_w3.out; have h3 := O_w4.out; have h4 := O_w5.out; have h5 := O_w6.out; have h6 := O_w7.out; have h7 := O_w8.out; have h8 := O_w9.out; have h9 := O_w10.out; have h10 := O_w11.out; have h11 := O_w12.out; omega)
  have hb_w13 := bKept hb_w12 (by have h0 := O_w1.out; have h1 := O_w2.out; have h2 := O_w3.out; have h3 := O_w4.out; have h4 := O_w5.out; have h5 := O_w6.out; have h6 := O_w7.out; have h7 := O_w8.out; have h8 := O_w9.out; have h9 := O_w10.out; have h10 := O_w11.out; have h11 := O_w12.out; have hz := hb_w12.size; omega) hk
  have O_w13 : Hid (w12.heap.size ≤ w13.heap.size) := hk.size
  clear Ho_w12 Hb_w12 Hc_w12 Hd_w12 He_w12 Hw_w12 Hp_w12 hb_w12 hk hr hrr
  go_wp2_with fail
  refine (marked_ans (Hd_w13.out) (HNM.out.2.2)).mono ?_
  rintro e w14 ⟨rfl, g, hk, hr⟩
  have hrr : w6.heap.size ≤ g ∧ g < w7.heap.size ∨ w13.heap.size ≤ g := hr
  have Ho_w14 : Hid (Rg w1.heap.size w2.heap.size w14 vo n f) := Ho_w13.out.kept hk (by have h0 := O_w1.out; have h1 := O_w2.out; have h2 := O_w3.out; have h3 := O_w4.out; have h4 := O_w5.out; have h5 := O_w6.out; have h6 := O_w7.out; have h7 := O_w8.out; have h8 := O_w9.out; have h9 := O_w10.out; have h10 := O_w11.out; have h11 := O_w12.out; have h12 := O_w13.out; omega)
  have Hb_w14 : Hid (Ans w4.heap.size w5.heap.size w14 vb NV FV) := Hb_w13.out.kept hk (by have h0 := O_w1.out; have h1 := O_w2.out; have h2 := O_w3.out; have h3 := O_w4.out; have h4 := O_w5.out; have h5 := O_w6.out; have h6 := O_w7.out; have h7 := O_w8.out; have h8 := O_w9.out; have h9 := O_w10.out; have h10 := O_w11.out; have h11 := O_w12.out; have h12 := O_w13.out; omega)
  have He_w14 : Hid (Ans w7.heap.size w8.heap.size w14 ve NP FP) := He_w13.out.kept hk (by have h0 := O_w1.out; have h1 := O_w2.out; have h2 := O_w3.out; have h3 := O_w4.out; have h4 := O_w5.out; have h5 := O_w6.out; have h6 := O_w7.out; have h7 := O_w8.out; have h8 := O_w9.out; have h9 := O_w10.out; have h10 := O_w11.out; have h11 := O_w12.out; have h12 := O_w13.out; omega)
  have Hw_w14 : Hid (Rg w8.heap.size w9.heap.size w14 vw NV FV) := Hw_w13.out.kept hk (by have h0 := O_w1.out; have h1 := O_w2.out; have h2 := O_w3.out; have h3 := O_w4.out; have h4 := O_w5.out; have h5 := O_w6.out; have h6 := O_w7.out; have h7 := O_w8.out; have h8 := O_w9.out; have h9 := O_w10.out; have h10 := O_w11.out; have h11 := O_w12.out; have h12 := O_w13.out; omega)
  have Hp_w14 : Hid (Rg w9.heap.size w10.heap.size w14 vp NP FP) := Hp_w13.out.kept hk (by have h0 := O_w1.out; have h1 := O_w2.out; have h2 := O_w3.out; have h3 := O_w4.out; have h4 := O_w5.out; have h5 := O_w6.out; have h6 := O_w7.out; have h7 := O_w8.out; have h8 := O_w9.out; have h9 := O_w10.out; have h10 := O_w11.out; have h11 := O_w12.out; have h12 := O_w13.out; omega)
  have hb_w14 := bKept hb_w13 (by have h0 := O_w1.out; have h1 := O_w2.out; have h2 := O_w3.out; have h3 := O_w4.out; have h4 := O_w5.out; have h5 := O_w6.out; have h6 := O_w7.out; have h7 := O_w8.out; have h8 := O_w9.out; have h9 := O_w10.out; have h10 := O_w11.out; have h11 := O_w12.out; have h12 := O_w13.out; have hz := hb_w13.size; omega) hk
  have O_w14 : Hid (w13.heap.size ≤ w14.heap.size) := hk.size
  clear Ho_w13 Hb_w13 Hd_w13 He_w13 Hw_w13 Hp_w13 hb_w13 hk hr hrr
  go_wp2_with fail
  refine (sameE_self _ _ NV FV (HN.out.1) HFV.out _ (Hb_w14.out.Es) (Hw_w14.out.Es)).mono ?_
  rintro e w15 ⟨rfl, hq⟩
  have Ho_w15 : Hid (Rg w1.heap.size w2.heap.size w15 vo n f) := Ho_w14.out.below hq
  have Hb_w15 : Hid (Ans w4.heap.size w5.heap.size w15 vb NV FV) := Hb_w14.out.below hq
  have He_w15 : Hid (Ans w7.heap.size w8.heap.size w15 ve NP FP) := He_w14.out.below hq
  have Hw_w15 : Hid (Rg w8.heap.size w9.heap.size w15 vw NV FV) := Hw_w14.out.below hq
  have Hp_w15 : Hid (Rg w9.heap.size w10.heap.size w15 vp NP FP) := Hp_w14.out.below hq
  have hb_w15 := bStep hb_w14 hq
  have O_w15 : Hid (w14.heap.size ≤ w15.heap.size) := hq.size
  clear Ho_w14 Hb_w14 He_w14 Hw_w14 Hp_w14 hb_w14
  clear hq
  go_wp2_with fail
  refine (sameE_self _ _ NP FP (HN.out.2.1) HFP.out _ (He_w15.out.Es) (Hp_w15.out.Es)).mono ?_
  rintro e w16 ⟨rfl, hq⟩
  have Ho_w16 : Hid (Rg w1.heap.size w2.heap.size w16 vo n f) := Ho_w15.out.below hq
  have Hb_w16 : Hid (Ans w4.heap.size w5.heap.size w16 vb NV FV) := Hb_w15.out.below hq
  have He_w16 : Hid (Ans w7.heap.size w8.heap.size w16 ve NP FP) := He_w15.out.below hq
  have Hw_w16 : Hid (Rg w8.heap.size w9.heap.size w16 vw NV FV) := Hw_w15.out.below hq
  have Hp_w16 : Hid (Rg w9.heap.size w10.heap.size w16 vp NP FP) := Hp_w15.out.below hq
  have hb_w16 := bStep hb_w15 hq
  have O_w16 : Hid (w15.heap.size ≤ w16.heap.size) := hq.size
  clear Ho_w15 Hb_w15 He_w15 Hw_w15 Hp_w15 hb_w15
  clear hq
  go_wp2_with fail
  refine (sameE_self _ _ n f (HN.out.2.2) HF.out _ (Ho_w16.out.Es) (HB.out.below hb_w16)).mono ?_
  rintro e w17 ⟨rfl, hq⟩
  have Ho_w17 : Hid (Rg w1.heap.size w2.heap.size w17 vo n f) := Ho_w16.out.below hq
  have Hb_w17 : Hid (Ans w4.heap.size w5.heap.size w17 vb NV FV) := Hb_w16.out.below hq
  have He_w17 : Hid (Ans w7.heap.size w8.heap.size w17 ve NP FP) := He_w16.out.below hq
  have Hw_w17 : Hid (Rg w8.heap.size w9.heap.size w17 vw NV FV) := Hw_w16.out.below hq
  have Hp_w17 : Hid (Rg w9.heap.size w10.heap.size w17 vp NP FP) := Hp_w16.out.below hq
  have hb_w17 := bStep hb_w16 hq
  have O_w17 : Hid (w16.heap.size ≤ w17.heap.size) := hq.size
  clear Ho_w16 Hb_w16 He_w16 Hw_w16 Hp_w16 hb_w16
  clear hq
  go_wp2
  go_ret
  exact ⟨rfl, hb_w17⟩
end Go.Proofs.YtfkdfngegeeciaaDoor
