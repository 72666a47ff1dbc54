/- lookup.without. -/
import Derived.Test.YtobeeoelfmfpdaaDoorXLU6
namespace Go.Proofs.YtobeeoelfmfpdaaDoor
open Go.RowKit
theorem wo_mem {a t : List Nat} : ∀ (i : Nat) {l : List Nat}, wo a t i = some l → ∀ v, v ∈ l → v ∈ t
  | 0, l, h, v, hv => by cases h; exact hv
  | i + 1, l, h, v, hv => by
    obtain ⟨m, hm, h1⟩ := Option.bind_eq_some_iff.1 h
    by_cases hf : isF a i = true
    · rw [if_pos hf] at h1
      by_cases hi : a.getD i 0 ∈ m
      · rw [if_pos hi] at h1
        cases h1
        exact wo_mem i hm v (List.mem_of_mem_erase hv)
      · rw [if_neg hi] at h1; cases h1
    · rw [if_neg hf] at h1
      cases h1
      exact wo_mem i hm v hv
/-- Block b has room for N elements; its first ones are the list's. -/
def RowL (w : World) (b N : Nat) (l : List Nat) : Prop := l.length ≤ N ∧ ∃ f, BlkE w b N f ∧ ∀ i, i < l.length → f i = l.getD i 0
theorem RowL.kept {w w' : World} {b N g : Nat} {l : List Nat} (h : RowL w b N l) (hne : b ≠ g) (hk : Kept g w w') : RowL w' b N l := by
  obtain ⟨h1, f, h2, h3⟩ := h
  exact ⟨h1, f, h2.kept hne hk, h3⟩
theorem RowL.below {w w' : World} {b N : Nat} {l : List Nat} (h : RowL w b N l) (hb : Below w.heap.size w w') : RowL w' b N l := by
  obtain ⟨h1, f, h2, h3⟩ := h
  exact ⟨h1, f, h2.belowAll hb, h3⟩
theorem RowL.es {w : World} {b N : Nat} {l : List Nat} (h : RowL w b N l) (hN : N ≤ maxLen) : Es w (.slice (some ⟨b, 0, none⟩) l.length N) l.length (fun i => l.getD i 0) := by
  obtain ⟨h1, f, h2, h3⟩ := h
  exact Or.inr ⟨b, 0, N, rfl, h1, hN, h2.lt, fun i hi j hj => by show _ = some (Value.int .u64 ((limb j (l.getD i 0) : Nat) : Int)); rw [← h3 i hi, Nat.zero_add]; exact h2.cell i (by omega) j hj⟩
theorem RowL.lt {w : World} {b N : Nat} {l : List Nat} (h : RowL w b N l) : b < w.heap.size := by
  obtain ⟨_, f, h2, _⟩ := h
  exact h2.lt
theorem BlkE.es {w : World} {b n : Nat} {f : Nat → Nat} (h : BlkE w b n f) (hn : n ≤ maxLen) : Go.Proofs.YtobeeoelfmfpdaaDoor.Es w (.slice (some ⟨b, 0, none⟩) n n) n f := h.Es hn
/-- One value is taken out of a row. -/
theorem rowDel {w' : World} {b N k : Nat} {l : List Nat} {f : Nat → Nat} (hk : k < l.length) (hv : ∀ j, j < k → l.getD j 0 ≠ l.getD k 0) (hf : ∀ i, i < l.length → f i = l.getD i 0) (hl : l.length ≤ N)
    (h : BlkE w' b N (fun i => if i = l.length - 1 then 0 else if i < k then f i else if i + 1 < l.length then f (i + 1) else f i)) : RowL w' b N (l.erase (l.getD k 0)) ∧ (l.erase (l.getD k 0)).length = l.length - 1 := by
  have he := erase_at (l.getD k 0) l k hk rfl hv
  have hlen : (l.erase (l.getD k 0)).length = l.length - 1 := List.length_erase_of_mem (getD_mem hk)
  refine ⟨⟨by omega, _, h, fun i hi => ?_⟩, hlen⟩
  rw [hlen] at hi
  rw [if_neg (by omega), he, List.getD_eq_getElem?_getD]
  by_cases h1 : i < k
  · rw [if_pos h1, hf i (by omega), List.getElem?_append_left (by rw [List.length_take]; omega), List.getElem?_take_of_lt h1, List.getD_eq_getElem?_getD]
  · rw [if_neg h1, if_pos (by omega), hf _ (by omega), List.getElem?_append_right (by rw [List.length_take]; omega), List.length_take, List.getElem?_drop, List.getD_eq_getElem?_getD, show k + 1 + (i - min k l.length) = i + 1 by omega]
/-- What without answers. -/
def WoE (r : Option (List Nat)) (G N : Nat) (e : Ending) (w' : World) : Prop :=
  (r = none ∧ e = .returned (.tuple #[.slice none 0 0, .bool false])) ∨ ∃ (t : List Nat), r = some t ∧ e = .returned (.tuple #[.slice (some ⟨G, 0, none⟩) t.length N, .bool true]) ∧ RowL w' G N t
set_option maxHeartbeats 400000 in
set_option maxRecDepth 20000 in
/-- lookup.without. -/
theorem without_any (A G n N : Nat) (f : Nat → Nat) (l : List Nat) (hn : n ≤ 1000000) (hN : N ≤ 1000000) (hne : A ≠ G) (hf : ∀ i, i < n → f i < 115792089237316195423570985008687907853269984665640564039457584007913129639936) (hlM : ∀ v, v ∈ l → v < 115792089237316195423570985008687907853269984665640564039457584007913129639936) (w : World) (ha : BlkE w A n f) (hg : RowL w G N l) :
    Calls Tryd.prog 28 #[.slice (some ⟨G, 0, none⟩) l.length N, .slice (some ⟨A, 0, none⟩) n n] w fun e w' => WoE (wo (fl n f) l n) G N e w' ∧ Kept G w w' := by
  have HN : Hid (n ≤ maxLen ∧ N ≤ maxLen) := ⟨by unfold maxLen; omega, by unfold maxLen; omega⟩
  have HF : Hid (∀ i, i < n → f i < 115792089237316195423570985008687907853269984665640564039457584007913129639936) := hf
  have HLM : Hid (∀ v, v ∈ l → v < 115792089237316195423570985008687907853269984665640564039457584007913129639936) := hlM
  have HA : Hid (BlkE w A n f) := ha
  have hAl := ha.lt
  have hGl := hg.lt
  have HIF : Hid (∀ i, i < n → ∀ w, BlkE w A n f → Calls Tryd.prog 51 #[.slice (some ⟨A, 0, none⟩) n n, .int .i64 (i : Int)] w fun e w' => e = .returned (.bool (isF (fl n f) i)) ∧ Below w.heap.size w w') := fun i hi w hb => (isFirst_any n n i _ f hi hn hf w (hb.es (by unfold maxLen; omega))).mono (by
    rintro e w' ⟨rfl, d, rfl⟩
    exact ⟨rfl, Below.drewN2 _ _⟩)
  have HIX : Hid (∀ (t : List Nat) (m v : Nat), t.length = m → (∀ v, v ∈ t → v ∈ l) → v < 115792089237316195423570985008687907853269984665640564039457584007913129639936 → ∀ w, RowL w G N t → Calls Tryd.prog 52 #[.slice (some ⟨G, 0, none⟩) m N, .agg #[.int .u64 ((limb 0 (v) : Nat) : Int), .int .u64 ((limb 1 (v) : Nat) : Int), .int .u64 ((limb 2 (v) : Nat) : Int), .int .u64 ((limb 3 (v) : Nat) : Int)]] w fun e w' => IdxE (fun i => t.getD i 0) m v e ∧ Below w.heap.size w w') := by
    intro t m v hm ht hv w hb
    subst hm
    exact index_any t.length N v _ _ (by have := hb.1; omega) (fun i hi => hlM _ (ht _ (getD_mem hi))) hv w (hb.es (by unfold maxLen; omega))
  have HDL : Hid (∀ (t : List Nat) (m k : Nat), t.length = m → k < m → (∀ j, j < k → t.getD j 0 ≠ t.getD k 0) → ∀ w, RowL w G N t → Calls Tryd.prog 53 #[.slice (some ⟨G, 0, none⟩) m N, .int .i64 (k : Int), .int .i64 ((k : Int) + 1)] w fun e w' => e = .returned (.slice (some ⟨G, 0, none⟩) (m - 1) N) ∧ RowL w' G N (t.erase (t.getD k 0)) ∧ Kept G w w') := by
    intro t m k hm hk hj w hb
    subst hm
    obtain ⟨h1, g, h2, h3⟩ := hb
    refine (delete_any G N t.length k (k + 1) g hk rfl h1 w h2).mono ?_
    rintro e w' ⟨rfl, b, hkp⟩
    exact ⟨rfl, (rowDel hk hj h3 h1 b).1, hkp⟩
  have HE1 : Hid (∀ w', wo (fl n f) l n = none → WoE (wo (fl n f) l n) G N (.returned (.tuple #[.slice none 0 0, .bool false])) w') := fun w' h => Or.inl ⟨h, rfl⟩
  have HE2 : Hid (∀ w' (t : List Nat) (m : Nat), wo (fl n f) l n = some t → t.length = m → RowL w' G N t → WoE (wo (fl n f) l n) G N (.returned (.tuple #[.slice (some ⟨G, 0, none⟩) m N, .bool true])) w') := fun w' t m h hm hr => by
    subst hm
    exact Or.inr ⟨t, h, rfl, hr⟩
  have HR : Hid (RowL w G N l) := hg
  obtain ⟨m0, em0⟩ : ∃ z, z = l.length := ⟨_, rfl⟩
  have HM0 : Hid (l.length = m0) := em0.symm
  rw [← em0]
  clear hf hlM ha hg em0
  go_enter Tryd.func28, Tryd.ntmps28
  go_wp2
  go_loopw [0, 11] (fun tv iv wr => ∃ (j m : Nat) (t : List Nat), iv = .int .i64 (j : Int) ∧ tv = .slice (some ⟨G, 0, none⟩) m N ∧ j ≤ n ∧ Hid (t.length = m ∧ wo (fl n f) l j = some t) ∧ RowL wr G N t ∧ Kept G w wr) (fun _ iv _ => n - (intOf iv).toNat)
  case atStart => exact ⟨0, m0, l, rfl, rfl, Nat.zero_le _, ⟨HM0.out, rfl⟩, HR.out, Kept.refl _ _⟩
  case round =>
    obtain ⟨j, m, t, rfl, rfl, hj, ht, hr, hkp⟩ := hrel
    clear HR HM0
    by_cases hlt : j < n
    · have hji : (j : Int) < (n : Int) := by omega
      have bA := HA.out.kept hne hkp
      have c0 := bA.cell j hlt 0 (by decide); have c1 := bA.cell j hlt 1 (by decide); have c2 := bA.cell j hlt 2 (by decide); have c3 := bA.cell j hlt 3 (by decide)
      rw [Nat.add_zero] at c0
      have hx : Hid (f j < 115792089237316195423570985008687907853269984665640564039457584007913129639936) := HF.out j hlt
      have HAT : Hid ((fl n f).getD j 0 = f j) := fl_get hlt
      obtain ⟨x, ex⟩ : ∃ x, x = f j := ⟨_, rfl⟩
      rw [← ex] at c0 c1 c2 c3 hx HAT
      have HI := HIF.out j hlt
      obtain ⟨b, eb⟩ : ∃ b, b = isF (fl n f) j := ⟨_, rfl⟩
      rw [← eb] at HI
      have HIJ : Hid (∀ w, BlkE w A n f → _) := HI
      have HB : Hid (isF (fl n f) j = b) := eb.symm
      clear ex eb HI
      go_wp2_with fail
      obtain ⟨w3, hw3⟩ : ∃ z : World, z = wr.alloc (.cells #[.int .u64 ((limb 0 (x) : Nat) : Int), .int .u64 ((limb 1 (x) : Nat) : Int), .int .u64 ((limb 2 (x) : Nat) : Int), .int .u64 ((limb 3 (x) : Nat) : Int)] 24) := ⟨_, rfl⟩
      obtain ⟨N7, e7⟩ : ∃ z, z = wr.heap.size := ⟨_, rfl⟩
      have l7 : w.heap.size ≤ N7 := by rw [e7]; exact hkp.size
      have b7 : Blk w3 24 N7 (fun i => limb i x) := by rw [hw3]; exact Blk.newAt _ _ _ (fun i => limb i x) e7
      have hb3 : Below wr.heap.size wr w3 := by rw [hw3]; exact bAlloc (Below.refl _ _) _
      have bA3 := bA.belowAll hb3
      have hr3 := hr.below hb3
      have hk3 := hkp.step hb3
      rw [← hw3]
      try rw [← e7]
      clear hw3 e7 bA hr hkp hb3 c0 c1 c2 c3
      refine (HIJ.out w3 bA3).mono ?_
      rintro e w4 ⟨rfl, hb4⟩
      have b74 := b7.belowAll hb4
      have hr4 := hr3.below hb4
      have hk4 := hk3.step hb4
      clear bA3 hr3 hk3 b7 hb4 HIJ
      cases b
      · have HN1 : Hid (wo (fl n f) l (j + 1) = some t) := wo_next_skip ht.out.2 HB.out
        clear b74
        go_wp2
        go_roundw
        case measure => simp [intOf]; omega
        case rel => exact ⟨j + 1, m, t, by go_num, rfl, by omega, ⟨ht.out.1, HN1.out⟩, hr4, hk4⟩
      · have c0 := b74.cell 0 (by decide); have c1 := b74.cell 1 (by decide); have c2 := b74.cell 2 (by decide); have c3 := b74.cell 3 (by decide)
        have HXX : Hid (∀ w, RowL w G N t → _) := HIX.out t m x ht.out.1 (wo_mem j ht.out.2) hx.out
        go_wp2_with fail
        refine (HXX.out w4 hr4).mono ?_
        rintro e w5 ⟨hix, hb5⟩
        have hr5 := hr4.below hb5
        have hk5 := hk4.step hb5
        clear hr4 hk4 hb5 HXX c0 c1 c2 c3 b74
        rcases hix with ⟨k, hk, rfl, hkv, hkn⟩ | ⟨rfl, hno⟩
        · dsimp only at hkv hkn
          have hk0 : ¬ (k : Int) < 0 := by omega
          have hkN : k < 1000000 := by have h1 := hr5.1; have h2 := ht.out.1; omega
          have HDD : Hid (∀ w, RowL w G N t → _) := HDL.out t m k ht.out.1 hk (fun j hj => by rw [hkv]; exact hkn j hj)
          have HN1 : Hid (wo (fl n f) l (j + 1) = some (t.erase (t.getD k 0)) ∧ (t.erase (t.getD k 0)).length = m - 1) := by
            have hm : t.getD k 0 ∈ t := getD_mem (by rw [ht.out.1]; exact hk)
            have e1 : t.getD k 0 = (fl n f).getD j 0 := by rw [hkv, HAT.out]
            refine ⟨?_, by rw [List.length_erase_of_mem hm, ht.out.1]⟩
            rw [e1] at hm ⊢
            exact wo_next_in ht.out.2 HB.out hm
          clear hkv hkn
          go_wp2_with fail
          refine (HDD.out w5 hr5).mono ?_
          rintro e w6 ⟨rfl, hr6, hk6⟩
          have hk7 := hk5.trans hk6
          clear HDD hr5 hk5 hk6
          go_wp2
          go_roundw
          case measure => simp [intOf]; omega
          case rel => exact ⟨j + 1, m - 1, _, by go_num, rfl, by omega, ⟨HN1.out.2, HN1.out.1⟩, hr6, hk7⟩
        · have HN1 : Hid (wo (fl n f) l n = none) := by
            refine wo_none n (i := j + 1) ?_ (by omega)
            refine wo_next_out ht.out.2 HB.out (fun hm => ?_)
            rw [HAT.out] at hm
            obtain ⟨q, hq, e⟩ := mem_getD hm
            rw [ht.out.1] at hq
            exact hno q hq e
          clear hno
          go_wp2
          go_ret2
          exact ⟨HE1.out _ HN1.out, hk5⟩
    · have hji : ¬ (j : Int) < (n : Int) := by omega
      obtain rfl : j = n := by omega
      have HN1 := HE2.out wr t m ht.out.2 ht.out.1 hr
      go_wp2
      go_ret2
      exact ⟨HN1, hkp⟩
end Go.Proofs.YtobeeoelfmfpdaaDoor
