/- permute.Products. -/
import Derived.Test.YtfbfenljfdnggaaGreatDoorVWE
namespace Go.Proofs.YtfbfenljfdnggaaGreatDoor
open Go.RowKit
theorem KU.low {base base2 b : Nat} {w w' : World} (h : KU base2 b w w') (hb : base ≤ base2) : KU base b w w' := ⟨h.1, h.2.1, h.2.2.1, h.2.2.2.1, fun k hk hne => h.2.2.2.2 k (Nat.lt_of_lt_of_le hk hb) hne⟩
theorem PurseS.mono {w : World} {base base2 b m : Nat} {f : Nat → Nat} (h : PurseS w base b m f) (hb : base ≤ base2) : PurseS w base2 b m f := by
  obtain ⟨oa, cm, h1, h2, h3, h4⟩ := h
  exact ⟨oa, cm, h1, h2, Nat.lt_of_lt_of_le h3 hb, fun g o e => ⟨(h4 g o e).1, Nat.lt_of_lt_of_le (h4 g o e).2 hb⟩⟩
theorem CelK.same {w w' : World} {b n : Nat} {A B D : Nat → Nat} (h : CelK w b n A B D) (e : w'.heap[b]? = w.heap[b]?) : CelK w' b n A B D := by
  obtain ⟨c, hc, hs⟩ := h
  exact ⟨c, by rw [e]; exact hc, hs⟩
/-- What chunk j takes in, in row r. -/
def rUp (s be ga m : Nat) (X : Nat → Nat → Nat) (pt : Nat → Nat) (j r : Nat) : Nat := upV s be ga (2 * j) (min (2 * j + 2) m - 2 * j) (fun i => X i r) (fun i => mulP s (stP s (dP s) i) (pt r))
def rDn (s be ga m : Nat) (X Y : Nat → Nat → Nat) (j r : Nat) : Nat := upV s be ga (2 * j) (min (2 * j + 2) m - 2 * j) (fun i => X i r) (fun i => Y i r)
set_option maxHeartbeats 4000000 in
set_option maxRecDepth 100000 in
/-- Products where Check says no. -/
theorem pprod_no (si k er : Int) (m n cm cn b be ga : Nat) (om on : Option Addr) (her : er ≠ 0) (hck : ∀ w, GlobD w → Calls Tryz.prog 23 #[.int .i64 si, .int .i64 k] w fun e w' => e = .returned (.int .i64 er) ∧ Below w.heap.size w w') (w : World) (hg : GlobD w) :
    Calls Tryz.prog 10 #[.int .i64 si, .int .i64 k, .slice om m cm, .slice on n cn, .agg #[.int .u64 ((limb 0 (be) : Nat) : Int), .int .u64 ((limb 1 (be) : Nat) : Int), .int .u64 ((limb 2 (be) : Nat) : Int), .int .u64 ((limb 3 (be) : Nat) : Int)], .agg #[.int .u64 ((limb 0 (ga) : Nat) : Int), .int .u64 ((limb 1 (ga) : Nat) : Int), .int .u64 ((limb 2 (ga) : Nat) : Int), .int .u64 ((limb 3 (ga) : Nat) : Int)], .pointer (some ⟨b, 0, none⟩)] w fun e w' => e = .returned (.tuple #[.slice none 0 0, .int .i64 er]) ∧ Below w.heap.size w w' := by
  have HCK : Hid (∀ w, GlobD w → _) := hck
  have HG : Hid (GlobD w) := hg
  clear hck hg
  go_enter Tryz.func10, Tryz.ntmps10
  go_upto_region 1 with fail
  have hs1 : (w.alloc (.cells #[.int .u64 ((limb 0 (be) : Nat) : Int), .int .u64 ((limb 1 (be) : Nat) : Int), .int .u64 ((limb 2 (be) : Nat) : Int), .int .u64 ((limb 3 (be) : Nat) : Int)] 25)).heap.size = w.heap.size + 1 := Array.size_push ..
  obtain ⟨N11, e0⟩ : ∃ z, z = w.heap.size := ⟨_, rfl⟩
  obtain ⟨N12, e1⟩ : ∃ z, z = N11 + 1 := ⟨_, rfl⟩
  obtain ⟨w1, hw1⟩ : ∃ z : World, z = (w.alloc (.cells #[.int .u64 ((limb 0 (be) : Nat) : Int), .int .u64 ((limb 1 (be) : Nat) : Int), .int .u64 ((limb 2 (be) : Nat) : Int), .int .u64 ((limb 3 (be) : Nat) : Int)] 25)).alloc (.cells #[.int .u64 ((limb 0 (ga) : Nat) : Int), .int .u64 ((limb 1 (ga) : Nat) : Int), .int .u64 ((limb 2 (ga) : Nat) : Int), .int .u64 ((limb 3 (ga) : Nat) : Int)] 25) := ⟨_, rfl⟩
  have b11 : Blk w1 25 N11 (fun i => limb i be) := by rw [hw1]; exact (Blk.newAt _ _ _ (fun i => limb i be) e0).alloc _
  have b12 : Blk w1 25 N12 (fun i => limb i ga) := by rw [hw1]; exact Blk.newAt _ _ _ (fun i => limb i ga) (by rw [e1, e0, hs1])
  have hb1 : Below w.heap.size w w1 := by rw [hw1]; exact bAlloc (bAlloc (Below.refl _ _) _) _
  rw [← hw1]
  try rw [← e0]
  try rw [← e1]
  clear hw1 e0 e1 hs1
  go_wp2_with fail
  refine (HCK.out w1 (HG.out.below hb1)).mono ?_
  rintro e w2 ⟨rfl, hb⟩
  have hb2 := bStep hb1 hb
  have k11 := (b11.belowAll hb).cell; have k12 := (b12.belowAll hb).cell
  clear b11 b12 hb hb1
  clear k11 k12
  go_wp2
  refine bodyPost_ret (v := .tuple #[.slice none 0 0, .int .i64 er]) (by simp [results, Tryz.results10, go_sem]) rfl ⟨rfl, hb2⟩
set_option maxHeartbeats 4000000 in
set_option maxRecDepth 100000 in
/-- Products where the tables don't fit. -/
theorem pprod_len (si k : Int) (m n cm cn b be ga : Nat) (om on : Option Addr) (b1 b2 : Bool) (hbad : n ≠ m ∨ 8 < m ∨ b1 = false ∨ b2 = false) (hck : ∀ w, GlobD w → Calls Tryz.prog 23 #[.int .i64 si, .int .i64 k] w fun e w' => e = .returned (.int .i64 0) ∧ Below w.heap.size w w') (w : World) (hg : GlobD w)
    (hf1 : ∀ w', Below w.heap.size w w' → Calls Tryz.prog 24 #[.int .i64 k, .slice om m cm] w' fun e w'' => e = .returned (.bool b1) ∧ w'' = w') (hf2 : ∀ w', Below w.heap.size w w' → Calls Tryz.prog 24 #[.int .i64 k, .slice on n cn] w' fun e w'' => e = .returned (.bool b2) ∧ w'' = w') :
    Calls Tryz.prog 10 #[.int .i64 si, .int .i64 k, .slice om m cm, .slice on n cn, .agg #[.int .u64 ((limb 0 (be) : Nat) : Int), .int .u64 ((limb 1 (be) : Nat) : Int), .int .u64 ((limb 2 (be) : Nat) : Int), .int .u64 ((limb 3 (be) : Nat) : Int)], .agg #[.int .u64 ((limb 0 (ga) : Nat) : Int), .int .u64 ((limb 1 (ga) : Nat) : Int), .int .u64 ((limb 2 (ga) : Nat) : Int), .int .u64 ((limb 3 (ga) : Nat) : Int)], .pointer (some ⟨b, 0, none⟩)] w fun e w' => e = .returned (.tuple #[.slice none 0 0, .int .i64 50]) ∧ Below w.heap.size w w' := by
  have HCK : Hid (∀ w, GlobD w → _) := hck
  have HG : Hid (GlobD w) := hg
  have HF1 : Hid (∀ w', Below w.heap.size w w' → Calls Tryz.prog 24 #[.int .i64 k, .slice om m cm] w' fun e w'' => e = .returned (.bool b1) ∧ w'' = w') := hf1
  have HF2 : Hid (∀ w', Below w.heap.size w w' → Calls Tryz.prog 24 #[.int .i64 k, .slice on n cn] w' fun e w'' => e = .returned (.bool b2) ∧ w'' = w') := hf2
  clear hck hg hf1 hf2
  by_cases hnm : (n : Int) = (m : Int)
  · by_cases h8 : (8 : Int) < (m : Int)
    · go_enter Tryz.func10, Tryz.ntmps10
      go_upto_region 1 with fail
      have hs1 : (w.alloc (.cells #[.int .u64 ((limb 0 (be) : Nat) : Int), .int .u64 ((limb 1 (be) : Nat) : Int), .int .u64 ((limb 2 (be) : Nat) : Int), .int .u64 ((limb 3 (be) : Nat) : Int)] 25)).heap.size = w.heap.size + 1 := Array.size_push ..
      obtain ⟨N11, e0⟩ : ∃ z, z = w.heap.size := ⟨_, rfl⟩
      obtain ⟨N12, e1⟩ : ∃ z, z = N11 + 1 := ⟨_, rfl⟩
      obtain ⟨w1, hw1⟩ : ∃ z : World, z = (w.alloc (.cells #[.int .u64 ((limb 0 (be) : Nat) : Int), .int .u64 ((limb 1 (be) : Nat) : Int), .int .u64 ((limb 2 (be) : Nat) : Int), .int .u64 ((limb 3 (be) : Nat) : Int)] 25)).alloc (.cells #[.int .u64 ((limb 0 (ga) : Nat) : Int), .int .u64 ((limb 1 (ga) : Nat) : Int), .int .u64 ((limb 2 (ga) : Nat) : Int), .int .u64 ((limb 3 (ga) : Nat) : Int)] 25) := ⟨_, rfl⟩
      have b11 : Blk w1 25 N11 (fun i => limb i be) := by rw [hw1]; exact (Blk.newAt _ _ _ (fun i => limb i be) e0).alloc _
      have b12 : Blk w1 25 N12 (fun i => limb i ga) := by rw [hw1]; exact Blk.newAt _ _ _ (fun i => limb i ga) (by rw [e1, e0, hs1])
      have hb1 : Below w.heap.size w w1 := by rw [hw1]; exact bAlloc (bAlloc (Below.refl _ _) _) _
      rw [← hw1]
      try rw [← e0]
      try rw [← e1]
      clear hw1 e0 e1 hs1
      go_wp2_with fail
      refine (HCK.out w1 (HG.out.below hb1)).mono ?_
      rintro e w2 ⟨rfl, hb⟩
      have hb2 := bStep hb1 hb
      have k11 := (b11.belowAll hb).cell; have k12 := (b12.belowAll hb).cell
      clear b11 b12 hb hb1
      clear k11 k12
      go_wp2
      refine bodyPost_ret (v := .tuple #[.slice none 0 0, .int .i64 50]) (by simp [results, Tryz.results10, go_sem]) rfl ⟨rfl, hb2⟩
    · cases b1
      · go_enter Tryz.func10, Tryz.ntmps10
        go_upto_region 1 with fail
        have hs1 : (w.alloc (.cells #[.int .u64 ((limb 0 (be) : Nat) : Int), .int .u64 ((limb 1 (be) : Nat) : Int), .int .u64 ((limb 2 (be) : Nat) : Int), .int .u64 ((limb 3 (be) : Nat) : Int)] 25)).heap.size = w.heap.size + 1 := Array.size_push ..
        obtain ⟨N11, e0⟩ : ∃ z, z = w.heap.size := ⟨_, rfl⟩
        obtain ⟨N12, e1⟩ : ∃ z, z = N11 + 1 := ⟨_, rfl⟩
        obtain ⟨w1, hw1⟩ : ∃ z : World, z = (w.alloc (.cells #[.int .u64 ((limb 0 (be) : Nat) : Int), .int .u64 ((limb 1 (be) : Nat) : Int), .int .u64 ((limb 2 (be) : Nat) : Int), .int .u64 ((limb 3 (be) : Nat) : Int)] 25)).alloc (.cells #[.int .u64 ((limb 0 (ga) : Nat) : Int), .int .u64 ((limb 1 (ga) : Nat) : Int), .int .u64 ((limb 2 (ga) : Nat) : Int), .int .u64 ((limb 3 (ga) : Nat) : Int)] 25) := ⟨_, rfl⟩
        have b11 : Blk w1 25 N11 (fun i => limb i be) := by rw [hw1]; exact (Blk.newAt _ _ _ (fun i => limb i be) e0).alloc _
        have b12 : Blk w1 25 N12 (fun i => limb i ga) := by rw [hw1]; exact Blk.newAt _ _ _ (fun i => limb i ga) (by rw [e1, e0, hs1])
        have hb1 : Below w.heap.size w w1 := by rw [hw1]; exact bAlloc (bAlloc (Below.refl _ _) _) _
        rw [← hw1]
        try rw [← e0]
        try rw [← e1]
        clear hw1 e0 e1 hs1
        go_wp2_with fail
        refine (HCK.out w1 (HG.out.below hb1)).mono ?_
        rintro e w2 ⟨rfl, hb⟩
        have hb2 := bStep hb1 hb
        have k11 := (b11.belowAll hb).cell; have k12 := (b12.belowAll hb).cell
        clear b11 b12 hb hb1
        clear k11 k12
        go_wp2_with fail
        refine (HF1.out w2 hb2).mono ?_
        rintro e w3 ⟨rfl, e3⟩
        rw [e3]
        clear e3 w3 HF1
        go_wp2
        refine bodyPost_ret (v := .tuple #[.slice none 0 0, .int .i64 50]) (by simp [results, Tryz.results10, go_sem]) rfl ⟨rfl, hb2⟩
      · cases b2
        · go_enter Tryz.func10, Tryz.ntmps10
          go_upto_region 1 with fail
          have hs1 : (w.alloc (.cells #[.int .u64 ((limb 0 (be) : Nat) : Int), .int .u64 ((limb 1 (be) : Nat) : Int), .int .u64 ((limb 2 (be) : Nat) : Int), .int .u64 ((limb 3 (be) : Nat) : Int)] 25)).heap.size = w.heap.size + 1 := Array.size_push ..
          obtain ⟨N11, e0⟩ : ∃ z, z = w.heap.size := ⟨_, rfl⟩
          obtain ⟨N12, e1⟩ : ∃ z, z = N11 + 1 := ⟨_, rfl⟩
          obtain ⟨w1, hw1⟩ : ∃ z : World, z = (w.alloc (.cells #[.int .u64 ((limb 0 (be) : Nat) : Int), .int .u64 ((limb 1 (be) : Nat) : Int), .int .u64 ((limb 2 (be) : Nat) : Int), .int .u64 ((limb 3 (be) : Nat) : Int)] 25)).alloc (.cells #[.int .u64 ((limb 0 (ga) : Nat) : Int), .int .u64 ((limb 1 (ga) : Nat) : Int), .int .u64 ((limb 2 (ga) : Nat) : Int), .int .u64 ((limb 3 (ga) : Nat) : Int)] 25) := ⟨_, rfl⟩
          have b11 : Blk w1 25 N11 (fun i => limb i be) := by rw [hw1]; exact (Blk.newAt _ _ _ (fun i => limb i be) e0).alloc _
          have b12 : Blk w1 25 N12 (fun i => limb i ga) := by rw [hw1]; exact Blk.newAt _ _ _ (fun i => limb i ga) (by rw [e1, e0, hs1])
          have hb1 : Below w.heap.size w w1 := by rw [hw1]; exact bAlloc (bAlloc (Below.refl _ _) _) _
          rw [← hw1]
          try rw [← e0]
          try rw [← e1]
          clear hw1 e0 e1 hs1
          go_wp2_with fail
          refine (HCK.out w1 (HG.out.below hb1)).mono ?_
          rintro e w2 ⟨rfl, hb⟩
          have hb2 := bStep hb1 hb
          have k11 := (b11.belowAll hb).cell; have k12 := (b12.belowAll hb).cell
          clear b11 b12 hb hb1
          clear k11 k12
          go_wp2_with fail
          refine (HF1.out w2 hb2).mono ?_
          rintro e w3 ⟨rfl, e3⟩
          rw [e3]
          clear e3 w3 HF1
          go_wp2_with fail
          refine (HF2.out w2 hb2).mono ?_
          rintro e w3 ⟨rfl, e3⟩
          rw [e3]
          clear e3 w3 HF2
          go_wp2
          refine bodyPost_ret (v := .tuple #[.slice none 0 0, .int .i64 50]) (by simp [results, Tryz.results10, go_sem]) rfl ⟨rfl, hb2⟩
        · exfalso; rcases hbad with h | h | h | h
          · exact h (by omega)
          · omega
          · cases h
          · cases h
  · go_enter Tryz.func10, Tryz.ntmps10
    go_upto_region 1 with fail
    have hs1 : (w.alloc (.cells #[.int .u64 ((limb 0 (be) : Nat) : Int), .int .u64 ((limb 1 (be) : Nat) : Int), .int .u64 ((limb 2 (be) : Nat) : Int), .int .u64 ((limb 3 (be) : Nat) : Int)] 25)).heap.size = w.heap.size + 1 := Array.size_push ..
    obtain ⟨N11, e0⟩ : ∃ z, z = w.heap.size := ⟨_, rfl⟩
    obtain ⟨N12, e1⟩ : ∃ z, z = N11 + 1 := ⟨_, rfl⟩
    obtain ⟨w1, hw1⟩ : ∃ z : World, z = (w.alloc (.cells #[.int .u64 ((limb 0 (be) : Nat) : Int), .int .u64 ((limb 1 (be) : Nat) : Int), .int .u64 ((limb 2 (be) : Nat) : Int), .int .u64 ((limb 3 (be) : Nat) : Int)] 25)).alloc (.cells #[.int .u64 ((limb 0 (ga) : Nat) : Int), .int .u64 ((limb 1 (ga) : Nat) : Int), .int .u64 ((limb 2 (ga) : Nat) : Int), .int .u64 ((limb 3 (ga) : Nat) : Int)] 25) := ⟨_, rfl⟩
    have b11 : Blk w1 25 N11 (fun i => limb i be) := by rw [hw1]; exact (Blk.newAt _ _ _ (fun i => limb i be) e0).alloc _
    have b12 : Blk w1 25 N12 (fun i => limb i ga) := by rw [hw1]; exact Blk.newAt _ _ _ (fun i => limb i ga) (by rw [e1, e0, hs1])
    have hb1 : Below w.heap.size w w1 := by rw [hw1]; exact bAlloc (bAlloc (Below.refl _ _) _) _
    rw [← hw1]
    try rw [← e0]
    try rw [← e1]
    clear hw1 e0 e1 hs1
    go_wp2_with fail
    refine (HCK.out w1 (HG.out.below hb1)).mono ?_
    rintro e w2 ⟨rfl, hb⟩
    have hb2 := bStep hb1 hb
    have k11 := (b11.belowAll hb).cell; have k12 := (b12.belowAll hb).cell
    clear b11 b12 hb hb1
    clear k11 k12
    go_wp2
    refine bodyPost_ret (v := .tuple #[.slice none 0 0, .int .i64 50]) (by simp [results, Tryz.results10, go_sem]) rfl ⟨rfl, hb2⟩
set_option maxHeartbeats 8000000 in
set_option maxRecDepth 100000 in
/-- Products where all fits. -/
theorem pprod_ok (s q m b cm cn be ga mm : Nat) (om on : Option Addr) (F F2 : Nat → Value) (L L2 : Nat → Nat) (X Y : Nat → Nat → Nat) (f pt el sv : Nat → Nat) (bad : Nat → Prop) (zl : Nat → List Nat) (hs : s < 4) (hq : 3 ≤ q ∧ q ≤ 5) (hm8 : m ≤ 8) (hbe : be < 115792089237316195423570985008687907853269984665640564039457584007913129639936) (hga : ga < 115792089237316195423570985008687907853269984665640564039457584007913129639936) (hX : ∀ r i, i < m → X i r < 115792089237316195423570985008687907853269984665640564039457584007913129639936) (hY : ∀ r i, i < m → Y i r < 115792089237316195423570985008687907853269984665640564039457584007913129639936) (hpM : ∀ r, pt r < 115792089237316195423570985008687907853269984665640564039457584007913129639936)
    (hpts : ∀ w, GlobD w → Calls Tryz.prog 51 #[.int .i64 (s : Int), .int .i64 (q : Int)] w fun e w' => (∃ g, e = .returned (.tuple #[.slice (some ⟨g, 0, none⟩) (2 ^ q) (2 ^ q), .int .i64 0]) ∧ w.heap.size ≤ g ∧ BlkE w' g (2 ^ q) pt) ∧ Below w.heap.size w w') (hL : ∀ i, i < m → L i = 2 ^ q) (hL2 : ∀ i, i < m → L2 i = 2 ^ q) (hzl : ∀ j, (zl j).length = 2 ^ q - 4 + 1) (hsv : ∀ j, (zl j).getD (2 ^ q - 4) 0 = sv (j + 1)) (h0 : sv 0 = 1)
    (hal : ∀ j, j < (m + 1) / 2 → 3 * j ≤ mm → ∀ pb Z w', Glob w' → pb ≤ w'.heap.size → RtK w' Z (2 ^ q - 4) (rUp s be ga m X pt j) (rDn s be ga m X Y j) → PurseS w' pb b (mm - 3 * j) (fun i => f (i + 3 * j)) → Calls Tryz.prog 61 #[.int .i64 (s : Int), .agg #[.int .u64 ((limb 0 (sv j) : Nat) : Int), .int .u64 ((limb 1 (sv j) : Nat) : Int), .int .u64 ((limb 2 (sv j) : Nat) : Int), .int .u64 ((limb 3 (sv j) : Nat) : Int)], .slice (some ⟨Z, 0, none⟩) (2 ^ q - 4 : Nat) (2 ^ q - 4 : Nat), .pointer (some ⟨b, 0, none⟩)] w' fun e w'' => ((bad j ∧ e = .returned (.tuple #[.slice none 0 0, .int .i64 100])) ∨ (¬ bad j ∧ HidE w'.heap.size pb b (mm - 3 * j) (zl j) el (fun i => f (i + 3 * j)) e w'')) ∧ KU w'.heap.size b w' w'') (w : World) (hg : GlobD w) (h3b : 3 ≤ b) (h1 : Tab w (.slice om m cm) m F L X) (h2 : Tab w (.slice on m cn) m F2 L2 Y) (hp : PurseS w w.heap.size b mm f) :
    Calls Tryz.prog 10 #[.int .i64 (s : Int), .int .i64 (q : Int), .slice om m cm, .slice on m cn, .agg #[.int .u64 ((limb 0 (be) : Nat) : Int), .int .u64 ((limb 1 (be) : Nat) : Int), .int .u64 ((limb 2 (be) : Nat) : Int), .int .u64 ((limb 3 (be) : Nat) : Int)], .agg #[.int .u64 ((limb 0 (ga) : Nat) : Int), .int .u64 ((limb 1 (ga) : Nat) : Int), .int .u64 ((limb 2 (ga) : Nat) : Int), .int .u64 ((limb 3 (ga) : Nat) : Int)], .pointer (some ⟨b, 0, none⟩)] w fun e w' => (∃ wc, w.heap.size ≤ wc.heap.size ∧ PrsE wc w' ((m + 1) / 2) mm b bad zl el f e) ∧ KU w.heap.size b w w' := by
  have hck := fun w (hg : GlobD w) => pck_in s (q : Int) hs w hg.1
  rw [if_neg (by omega)] at hck
  have HCK : Hid (∀ w, GlobD w → _) := hck
  have HG : Hid (GlobD w) := hg
  have HF1 : Hid (∀ w', Below w.heap.size w w' → Calls Tryz.prog 24 #[.int .i64 (q : Int), .slice om m cm] w' fun e w'' => e = .returned (.bool true) ∧ w'' = w') := fun w' hb => by
    have h := areFull_any q m cm om F L X (by omega) (by omega) w' (h1.below hb)
    rw [show fullB m L (2 ^ q) = true from decide_eq_true hL] at h
    exact h
  have HF2 : Hid (∀ w', Below w.heap.size w w' → Calls Tryz.prog 24 #[.int .i64 (q : Int), .slice on m cn] w' fun e w'' => e = .returned (.bool true) ∧ w'' = w') := fun w' hb => by
    have h := areFull_any q m cn on F2 L2 Y (by omega) (by omega) w' (h2.below hb)
    rw [show fullB m L2 (2 ^ q) = true from decide_eq_true hL2] at h
    exact h
  have HAR : Hid (∀ w, Glob w → _) := fun w hg => argof_any s m be ga hs (by omega) w hg
  have HRW : Hid (∀ g ag w', ag = #[.int .i64 (s : Int), .int .u64 ((limb 0 be : Nat) : Int), .int .u64 ((limb 1 be : Nat) : Int), .int .u64 ((limb 2 be : Nat) : Int), .int .u64 ((limb 3 be : Nat) : Int), .int .u64 ((limb 0 ga : Nat) : Int), .int .u64 ((limb 1 ga : Nat) : Int), .int .u64 ((limb 2 ga : Nat) : Int), .int .u64 ((limb 3 ga : Nat) : Int), .slice (some ⟨g, 0, none⟩) m m] → Below w.heap.size w w' → BlkE w' g m (stP s (dP s)) → Calls Tryz.prog 26 #[.agg ag, .int .i64 (q : Int), .slice om m cm, .slice on m cn] w' fun e w'' => (∃ (H : Nat) (G : Nat → Nat), e = .returned (.tuple #[.slice (some ⟨H, 0, none⟩) (2 ^ q - 4 : Nat) (2 ^ q - 4 : Nat), .int .i64 0]) ∧ w'.heap.size ≤ H ∧ SlT 122 w'' H (2 ^ q - 4) (fun r => .slice (some ⟨G r, 0, none⟩) m m) ∧ ∀ r, r < 2 ^ q - 4 → w'.heap.size ≤ G r ∧ CelK w'' (G r) m (fun i => X i r) (fun i => mulP s (stP s (dP s) i) (pt r)) (fun i => Y i r)) ∧ Below w'.heap.size w' w'') := fun g ag w' eag hb hst =>
    rows_any s q m cm cn m g om on F F2 L L2 X Y ag be ga (stP s (dP s)) pt hs hq (by omega) (by rw [eag]; exact ⟨rfl, rfl, ⟨rfl, rfl, rfl, rfl⟩, ⟨rfl, rfl, rfl, rfl⟩, rfl⟩) hpM (fun i => stP_M _ _ _) hpts hL hL2 w' (hg.below hb) hst (h1.below hb) (h2.below hb)
  have HPS : Hid (∀ g ag H (G : Nat → Nat) w', ag = #[.int .i64 (s : Int), .int .u64 ((limb 0 be : Nat) : Int), .int .u64 ((limb 1 be : Nat) : Int), .int .u64 ((limb 2 be : Nat) : Int), .int .u64 ((limb 3 be : Nat) : Int), .int .u64 ((limb 0 ga : Nat) : Int), .int .u64 ((limb 1 ga : Nat) : Int), .int .u64 ((limb 2 ga : Nat) : Int), .int .u64 ((limb 3 ga : Nat) : Int), .slice (some ⟨g, 0, none⟩) m m] → Below w.heap.size w w' → b < H → (∀ r, r < 2 ^ q - 4 → b < G r) → SlT 122 w' H (2 ^ q - 4) (fun r => .slice (some ⟨G r, 0, none⟩) m m) → (∀ r, r < 2 ^ q - 4 → CelK w' (G r) m (fun i => X i r) (fun i => mulP s (stP s (dP s) i) (pt r)) (fun i => Y i r)) → Calls Tryz.prog 27 #[.agg ag, .slice (some ⟨H, 0, none⟩) (2 ^ q - 4 : Nat) (2 ^ q - 4 : Nat), .pointer (some ⟨b, 0, none⟩)] w' fun e w'' => PrsE w' w'' ((m + 1) / 2) mm b bad zl el f e ∧ KU w'.heap.size b w' w'') := fun g ag H G w' eag hb hbH hbG hS hC => by
    have hAV : AgP ag (s : Int) be ga (.slice (some ⟨g, 0, none⟩) m m) := by rw [eag]; exact ⟨rfl, rfl, ⟨rfl, rfl, rfl, rfl⟩, ⟨rfl, rfl, rfl, rfl⟩, rfl⟩
    have hu : 2 ^ q - 4 ≤ 900 := by have : 2 ^ q ≤ 32 := Nat.pow_le_pow_right (n := 2) (by decide) hq.2; omega
    have hgw := (hg.below hb).1
    refine prods_any s (2 ^ q - 4) m ((m + 1) / 2) mm b H m g be ga ag bad zl el f sv (rUp s be ga m X pt) (rDn s be ga m X Y) hu (by omega) rfl hAV hzl hsv h0 w' ((hp.below hb).mono hb.size) (fun j hj w2 hku => ?_) (fun j hj h3j Z w2 hku hr hpr => hal j hj h3j _ Z w2 (hku.glob hgw hgw.1 h3b) hku.2.2.2.1 hr hpr)
    exact ratios_any s (2 ^ q - 4) m j (2 * j) (min (2 * j + 2) m - 2 * j) H be ga ag _ G (fun r i => X i r) (fun r i => mulP s (stP s (dP s) i) (pt r)) (fun r i => Y i r) hs hu (by omega) rfl (by omega) rfl hAV hbe hga hX (fun r i _ => mulP_M _ _ _) hY w2 (hku.glob hgw hgw.1 h3b) (hS.same (hku.2.2.2.2 H hS.lt (by omega))) (fun r hr => (hC r hr).same (hku.2.2.2.2 (G r) (hC r hr).lt (by have := hbG r hr; omega)))
  have HBW : Hid (b < w.heap.size ∧ m ≤ 8) := ⟨by obtain ⟨_, _, _, _, h, _⟩ := hp; exact h, hm8⟩
  obtain ⟨u, eu⟩ : ∃ u, u = 2 ^ q - 4 := ⟨_, rfl⟩
  rw [← eu] at HRW HPS
  have h8 : ¬ (8 : Int) < (m : Int) := by omega
  clear hck hg hs hq hm8 hbe hga hX hY hpM hpts hL hL2 hzl hsv h0 hal h3b h1 h2 hp eu
  go_enter Tryz.func10, Tryz.ntmps10
  go_upto_region 1 with fail
  have hs1 : (w.alloc (.cells #[.int .u64 ((limb 0 (be) : Nat) : Int), .int .u64 ((limb 1 (be) : Nat) : Int), .int .u64 ((limb 2 (be) : Nat) : Int), .int .u64 ((limb 3 (be) : Nat) : Int)] 25)).heap.size = w.heap.size + 1 := Array.size_push ..
  obtain ⟨N11, e0⟩ : ∃ z, z = w.heap.size := ⟨_, rfl⟩
  obtain ⟨N12, e1⟩ : ∃ z, z = N11 + 1 := ⟨_, rfl⟩
  obtain ⟨w1, hw1⟩ : ∃ z : World, z = (w.alloc (.cells #[.int .u64 ((limb 0 (be) : Nat) : Int), .int .u64 ((limb 1 (be) : Nat) : Int), .int .u64 ((limb 2 (be) : Nat) : Int), .int .u64 ((limb 3 (be) : Nat) : Int)] 25)).alloc (.cells #[.int .u64 ((limb 0 (ga) : Nat) : Int), .int .u64 ((limb 1 (ga) : Nat) : Int), .int .u64 ((limb 2 (ga) : Nat) : Int), .int .u64 ((limb 3 (ga) : Nat) : Int)] 25) := ⟨_, rfl⟩
  have b11 : Blk w1 25 N11 (fun i => limb i be) := by rw [hw1]; exact (Blk.newAt _ _ _ (fun i => limb i be) e0).alloc _
  have b12 : Blk w1 25 N12 (fun i => limb i ga) := by rw [hw1]; exact Blk.newAt _ _ _ (fun i => limb i ga) (by rw [e1, e0, hs1])
  have hb1 : Below w.heap.size w w1 := by rw [hw1]; exact bAlloc (bAlloc (Below.refl _ _) _) _
  rw [← hw1]
  try rw [← e0]
  try rw [← e1]
  clear hw1 e0 e1 hs1
  go_wp2_with fail
  refine (HCK.out w1 (HG.out.below hb1)).mono ?_
  rintro e w2 ⟨rfl, hb⟩
  have hb2 := bStep hb1 hb
  have k11 := (b11.belowAll hb).cell; have k12 := (b12.belowAll hb).cell
  clear b11 b12 hb hb1
  go_wp2_with fail
  refine (HF1.out w2 hb2).mono ?_
  rintro e w3 ⟨rfl, e3⟩
  rw [e3]
  clear e3 w3 HF1
  go_wp2_with fail
  refine (HF2.out w2 hb2).mono ?_
  rintro e w3 ⟨rfl, e3⟩
  rw [e3]
  clear e3 w3 HF2
  go_wp2_with fail
  refine (HAR.out w2 (HG.out.below hb2).1).mono ?_
  rintro e w3 ⟨⟨g, rfl, lg, bg⟩, hb⟩
  have hb3 := bStep hb2 hb
  clear k11 k12 hb hb2 HAR lg HCK
  go_upto_region 7 with fail
  obtain ⟨ag, eag⟩ : ∃ ag : Array Value, ag = #[.int .i64 (s : Int), .int .u64 ((limb 0 be : Nat) : Int), .int .u64 ((limb 1 be : Nat) : Int), .int .u64 ((limb 2 be : Nat) : Int), .int .u64 ((limb 3 be : Nat) : Int), .int .u64 ((limb 0 ga : Nat) : Int), .int .u64 ((limb 1 ga : Nat) : Int), .int .u64 ((limb 2 ga : Nat) : Int), .int .u64 ((limb 3 ga : Nat) : Int), .slice (some ⟨g, 0, none⟩) m m] := ⟨_, rfl⟩
  have HSA : Hid ((Tryz.prog.info? 75).map (·.size) = some ag.size) := by rw [eag]; exact sizG
  have HEA : Hid (ag = #[.int .i64 (s : Int), .int .u64 ((limb 0 be : Nat) : Int), .int .u64 ((limb 1 be : Nat) : Int), .int .u64 ((limb 2 be : Nat) : Int), .int .u64 ((limb 3 be : Nat) : Int), .int .u64 ((limb 0 ga : Nat) : Int), .int .u64 ((limb 1 ga : Nat) : Int), .int .u64 ((limb 2 ga : Nat) : Int), .int .u64 ((limb 3 ga : Nat) : Int), .slice (some ⟨g, 0, none⟩) m m]) := eag
  obtain ⟨w4, hw4⟩ : ∃ z : World, z = w3.alloc (.cells #[.int .i64 (s : Int), .int .u64 ((limb 0 be : Nat) : Int), .int .u64 ((limb 1 be : Nat) : Int), .int .u64 ((limb 2 be : Nat) : Int), .int .u64 ((limb 3 be : Nat) : Int), .int .u64 ((limb 0 ga : Nat) : Int), .int .u64 ((limb 1 ga : Nat) : Int), .int .u64 ((limb 2 ga : Nat) : Int), .int .u64 ((limb 3 ga : Nat) : Int), .slice (some ⟨g, 0, none⟩) m m] 75) := ⟨_, rfl⟩
  obtain ⟨N17, e17⟩ : ∃ z, z = w3.heap.size := ⟨_, rfl⟩
  have b17 : Lay w4 75 N17 ag := by rw [hw4, eag]; exact Lay.newAt _ _ _ e17
  have hbn : Below w3.heap.size w3 w4 := by rw [hw4]; exact bAlloc (Below.refl _ _) _
  have dg := bg.belowAll hbn
  have hb4 := bStep hb3 hbn
  rw [← hw4]
  try rw [← e17]
  clear hw4 e17 hbn bg hb3 eag
  have HR4 : Hid (Calls Tryz.prog 26 _ w4 _) := HRW.out g ag w4 HEA.out hb4 dg
  have HD17 : Hid (Lay w4 75 N17 ag) := b17
  clear dg b17 HRW
  go_wp2_with (refine wpList_load_row rfl 75 _ rfl N17 rfl 75 ag (0, 0) _ HD17.out undG rfl HSA.out ?_; simp only [Act.put])
  refine HR4.out.mono ?_
  rintro e w5 ⟨⟨H, G, rfl, lH, hS, hC⟩, hb⟩
  have hb5 := bStep hb4 hb
  have HD5 : Hid (Lay w5 75 N17 ag) := HD17.out.belowAll hb
  have HQ5 : Hid (Calls Tryz.prog 27 _ w5 _) := HPS.out g ag H G w5 HEA.out hb5 (by have := HBW.out; have := hb4.size; omega) (fun r hr => by have := HBW.out; have := hb4.size; have := (hC r hr).1; omega) hS (fun r hr => (hC r hr).2)
  clear hb HD17 HR4 HPS hS hC lH
  go_wp2_with (refine wpList_load_row rfl 75 _ rfl N17 rfl 75 ag (0, 0) _ HD5.out undG rfl HSA.out ?_; simp only [Act.put])
  refine HQ5.out.mono ?_
  rintro e w6 ⟨hpe, hku⟩
  have HX : Hid ((∃ wc, w.heap.size ≤ wc.heap.size ∧ PrsE wc w6 ((m + 1) / 2) mm b bad zl el f e) ∧ KU w.heap.size b w w6) := ⟨⟨w5, hb5.size, hpe⟩, ((KU.refl _ _ _).below hb5).trans (hku.low hb5.size)⟩
  clear hku HQ5 HD5
  rcases hpe with ⟨j, er, _, _, _, _, rfl⟩ | ⟨_, _, T, zs, rfl, _⟩
  · go_wp2
    refine bodyPost_ret (v := .tuple #[.slice none 0 0, .int .i64 er]) (by simp [results, Tryz.results10, go_sem]) rfl HX.out
  · go_wp2
    refine bodyPost_ret (v := .tuple #[.slice (some ⟨T, 0, none⟩) ((m + 1) / 2) ((m + 1) / 2), .int .i64 0]) (by simp [results, Tryz.results10, go_sem]) rfl HX.out
end Go.Proofs.YtfbfenljfdnggaaGreatDoor
