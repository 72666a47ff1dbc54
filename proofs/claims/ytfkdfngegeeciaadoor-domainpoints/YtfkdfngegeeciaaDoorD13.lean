/- domain: Values; what Values and Coeffs refuse. -/
import Derived.Test.YtfkdfngegeeciaaDoorD12
namespace Go.Proofs.YtfkdfngegeeciaaDoor
open Go.RowKit

theorem shf_in {s k x : Nat} (hs : s < 4) (hk : k ≤ 9) (hx : x % modN s ≠ 0) : shfE (s : Int) (k : Int) x = 0 := by
  unfold shfE
  rw [chk_in hs hk, if_neg (by simp), show (s : Int).toNat = s from rfl, if_neg hx]
set_option maxHeartbeats 2000000 in
theorem dVals_err (s k : Int) (x : Nat) (v : Value) (hx : x < 115792089237316195423570985008687907853269984665640564039457584007913129639936) (hE : shfE s k x ≠ 0) (w : World) (hg : GlobD w) : Calls Tryd.prog 19 #[.int .i64 s, .int .i64 k, .agg #[.int .u64 ((limb 0 (x) : Nat) : Int), .int .u64 ((limb 1 (x) : Nat) : Int), .int .u64 ((limb 2 (x) : Nat) : Int), .int .u64 ((limb 3 (x) : Nat) : Int)], v] w fun e w' => e = .returned (.tuple #[.slice none 0 0, .int .i64 (shfE s k x)]) ∧ Below w.heap.size w w' := by
  have HC : Hid (∀ w, GlobD w → _) := fun w hg => dshift_any s k x hx w hg
  have HG : Hid (GlobD w) := hg
  obtain ⟨c, ec⟩ : ∃ c, c = shfE s k x := ⟨_, rfl⟩
  rw [← ec] at HC hE ⊢
  clear ec hg
  go_enter Tryd.func19, Tryd.ntmps19
  go_upto_region 1 with fail
  obtain ⟨w0, hw0⟩ : ∃ z : World, z = w.alloc (.cells #[.int .u64 ((limb 0 (x) : Nat) : Int), .int .u64 ((limb 1 (x) : Nat) : Int), .int .u64 ((limb 2 (x) : Nat) : Int), .int .u64 ((limb 3 (x) : Nat) : Int)] 24) := ⟨_, rfl⟩
  obtain ⟨N6, e6⟩ : ∃ N, N = w.heap.size := ⟨_, rfl⟩
  have bx0 : Blk w0 24 N6 (fun i => limb i x) := by rw [hw0]; exact Blk.newAt _ _ _ (fun i => limb i x) e6
  have hb0 : Below w.heap.size w w0 := by rw [hw0]; exact bAlloc (Below.refl _ _) _
  have l6 : w.heap.size ≤ N6 := by omega
  rw [← hw0, ← e6]
  clear hw0 e6
  have cx := bx0.cell
  go_wp2_with fail
  refine (HC.out _ (HG.out.below hb0)).mono ?_
  rintro e w1 ⟨rfl, hb1⟩
  have hbw1 := bStep hb0 hb1
  have bx1 := bx0.belowAll hb1
  clear bx0 hb0 hb1 HC cx
  go_wp2
  go_ret2
  exact ⟨rfl, hbw1⟩
set_option maxHeartbeats 2000000 in
theorem dCo_err (s k : Int) (x : Nat) (v : Value) (hx : x < 115792089237316195423570985008687907853269984665640564039457584007913129639936) (hE : shfE s k x ≠ 0) (w : World) (hg : GlobD w) : Calls Tryd.prog 21 #[.int .i64 s, .int .i64 k, .agg #[.int .u64 ((limb 0 (x) : Nat) : Int), .int .u64 ((limb 1 (x) : Nat) : Int), .int .u64 ((limb 2 (x) : Nat) : Int), .int .u64 ((limb 3 (x) : Nat) : Int)], v] w fun e w' => e = .returned (.tuple #[.slice none 0 0, .int .i64 (shfE s k x)]) ∧ Below w.heap.size w w' := by
  have HC : Hid (∀ w, GlobD w → _) := fun w hg => dshift_any s k x hx w hg
  have HG : Hid (GlobD w) := hg
  obtain ⟨c, ec⟩ : ∃ c, c = shfE s k x := ⟨_, rfl⟩
  rw [← ec] at HC hE ⊢
  clear ec hg
  go_enter Tryd.func21, Tryd.ntmps21
  go_upto_region 1 with fail
  obtain ⟨w0, hw0⟩ : ∃ z : World, z = w.alloc (.cells #[.int .u64 ((limb 0 (x) : Nat) : Int), .int .u64 ((limb 1 (x) : Nat) : Int), .int .u64 ((limb 2 (x) : Nat) : Int), .int .u64 ((limb 3 (x) : Nat) : Int)] 24) := ⟨_, rfl⟩
  obtain ⟨N6, e6⟩ : ∃ N, N = w.heap.size := ⟨_, rfl⟩
  have bx0 : Blk w0 24 N6 (fun i => limb i x) := by rw [hw0]; exact Blk.newAt _ _ _ (fun i => limb i x) e6
  have hb0 : Below w.heap.size w w0 := by rw [hw0]; exact bAlloc (Below.refl _ _) _
  have l6 : w.heap.size ≤ N6 := by omega
  rw [← hw0, ← e6]
  clear hw0 e6
  have cx := bx0.cell
  go_wp2_with fail
  refine (HC.out _ (HG.out.below hb0)).mono ?_
  rintro e w1 ⟨rfl, hb1⟩
  have hbw1 := bStep hb0 hb1
  have bx1 := bx0.belowAll hb1
  clear bx0 hb0 hb1 HC cx
  go_wp2
  go_ret2
  exact ⟨rfl, hbw1⟩
set_option maxHeartbeats 2000000 in
theorem dVals_len (s k n cn x : Nat) (oa : Option Addr) (hs : s < 4) (hk : k ≤ 9) (hx : x < 115792089237316195423570985008687907853269984665640564039457584007913129639936) (hnz : x % modN s ≠ 0) (hn : 2 ^ k < n) (w : World) (hg : GlobD w) : Calls Tryd.prog 19 #[.int .i64 (s : Int), .int .i64 (k : Int), .agg #[.int .u64 ((limb 0 (x) : Nat) : Int), .int .u64 ((limb 1 (x) : Nat) : Int), .int .u64 ((limb 2 (x) : Nat) : Int), .int .u64 ((limb 3 (x) : Nat) : Int)], .slice oa n cn] w fun e w' => e = .returned (.tuple #[.slice none 0 0, .int .i64 50]) ∧ Below w.heap.size w w' := by
  have HC : Hid (∀ w, GlobD w → _) := fun w hg => dshift_any (s : Int) (k : Int) x hx w hg
  rw [shf_in hs hk hnz] at HC
  have HG : Hid (GlobD w) := hg
  obtain ⟨N, eN⟩ : ∃ N, N = 2 ^ k := ⟨_, rfl⟩
  have hN := pow9 hk
  rw [← eN] at hN
  have HSH : Hid (IntKind.i64.wrap (2 ^ k) = (N : Int)) := by
    have : (2 : Int) ^ k = (N : Int) := by rw [eN]; simp
    rw [this]
    exact wrap_i64_nat N (by omega)
  have hk63 : ¬ (k : Int) < 0 := by omega
  rw [← eN] at hn
  clear hg eN
  have hni : (N : Int) < (n : Int) := by omega
  go_enter Tryd.func19, Tryd.ntmps19
  go_upto_region 1 with fail
  obtain ⟨w0, hw0⟩ : ∃ z : World, z = w.alloc (.cells #[.int .u64 ((limb 0 (x) : Nat) : Int), .int .u64 ((limb 1 (x) : Nat) : Int), .int .u64 ((limb 2 (x) : Nat) : Int), .int .u64 ((limb 3 (x) : Nat) : Int)] 24) := ⟨_, rfl⟩
  obtain ⟨N6, e6⟩ : ∃ N, N = w.heap.size := ⟨_, rfl⟩
  have bx0 : Blk w0 24 N6 (fun i => limb i x) := by rw [hw0]; exact Blk.newAt _ _ _ (fun i => limb i x) e6
  have hb0 : Below w.heap.size w w0 := by rw [hw0]; exact bAlloc (Below.refl _ _) _
  have l6 : w.heap.size ≤ N6 := by omega
  rw [← hw0, ← e6]
  clear hw0 e6
  have cx := bx0.cell
  go_wp2_with fail
  refine (HC.out _ (HG.out.below hb0)).mono ?_
  rintro e w1 ⟨rfl, hb1⟩
  have hbw1 := bStep hb0 hb1
  have bx1 := bx0.belowAll hb1
  clear bx0 hb0 hb1 HC cx
  have hsh := HSH.out
  go_wp2
  go_ret2
  exact ⟨rfl, hbw1⟩
set_option maxHeartbeats 2000000 in
theorem dCo_len (s k n cn x : Nat) (oa : Option Addr) (hs : s < 4) (hk : k ≤ 9) (hx : x < 115792089237316195423570985008687907853269984665640564039457584007913129639936) (hnz : x % modN s ≠ 0) (hn : n ≠ 2 ^ k) (w : World) (hg : GlobD w) : Calls Tryd.prog 21 #[.int .i64 (s : Int), .int .i64 (k : Int), .agg #[.int .u64 ((limb 0 (x) : Nat) : Int), .int .u64 ((limb 1 (x) : Nat) : Int), .int .u64 ((limb 2 (x) : Nat) : Int), .int .u64 ((limb 3 (x) : Nat) : Int)], .slice oa n cn] w fun e w' => e = .returned (.tuple #[.slice none 0 0, .int .i64 50]) ∧ Below w.heap.size w w' := by
  have HC : Hid (∀ w, GlobD w → _) := fun w hg => dshift_any (s : Int) (k : Int) x hx w hg
  rw [shf_in hs hk hnz] at HC
  have HG : Hid (GlobD w) := hg
  obtain ⟨N, eN⟩ : ∃ N, N = 2 ^ k := ⟨_, rfl⟩
  have hN := pow9 hk
  rw [← eN] at hN
  have HSH : Hid (IntKind.i64.wrap (2 ^ k) = (N : Int)) := by
    have : (2 : Int) ^ k = (N : Int) := by rw [eN]; simp
    rw [this]
    exact wrap_i64_nat N (by omega)
  have hk63 : ¬ (k : Int) < 0 := by omega
  rw [← eN] at hn
  clear hg eN
  have hni : ¬ (n : Int) = (N : Int) := by omega
  go_enter Tryd.func21, Tryd.ntmps21
  go_upto_region 1 with fail
  obtain ⟨w0, hw0⟩ : ∃ z : World, z = w.alloc (.cells #[.int .u64 ((limb 0 (x) : Nat) : Int), .int .u64 ((limb 1 (x) : Nat) : Int), .int .u64 ((limb 2 (x) : Nat) : Int), .int .u64 ((limb 3 (x) : Nat) : Int)] 24) := ⟨_, rfl⟩
  obtain ⟨N6, e6⟩ : ∃ N, N = w.heap.size := ⟨_, rfl⟩
  have bx0 : Blk w0 24 N6 (fun i => limb i x) := by rw [hw0]; exact Blk.newAt _ _ _ (fun i => limb i x) e6
  have hb0 : Below w.heap.size w w0 := by rw [hw0]; exact bAlloc (Below.refl _ _) _
  have l6 : w.heap.size ≤ N6 := by omega
  rw [← hw0, ← e6]
  clear hw0 e6
  have cx := bx0.cell
  go_wp2_with fail
  refine (HC.out _ (HG.out.below hb0)).mono ?_
  rintro e w1 ⟨rfl, hb1⟩
  have hbw1 := bStep hb0 hb1
  have bx1 := bx0.belowAll hb1
  clear bx0 hb0 hb1 HC cx
  have hsh := HSH.out
  go_wp2
  go_ret2
  exact ⟨rfl, hbw1⟩

theorem fz_fac (s a st : Nat) : ∀ i, fz s (facP s a st i) = fz s a * fp (fz s st) i
  | 0 => by show fz s a = fz s a * 1; grind
  | i + 1 => by
    show fz s (mulP s (facP s a st i) st) = fz s a * (fp (fz s st) i * fz s st)
    rw [fz_mul, fz_fac s a st i]; grind
/-- What Values answers. -/
def ValP (s k x n : Nat) (f F : Nat → Nat) : Prop := ∀ i, i < 2 ^ k → F i < modN s ∧ fz s (F i) = pf (fz s x * fp (fz s (rootP s k)) i) n (fun j => fz s (f j))
theorem val_ok {s k x n : Nat} {f F : Nat → Nat} (hn : n ≤ 2 ^ k) (h : TrP s k (rootP s k) (fun i => mulP s (if i < n then f i else 0) (facP s 1 x i)) F) : ValP s k x n f F := fun i hi => by
  obtain ⟨_, h2, h3⟩ := h i hi
  refine ⟨h2 (fun j _ => mulP_lt _ _ _), ?_⟩
  rw [h3]
  have e : (fun j => fz s (mulP s (if j < n then f j else 0) (facP s 1 x j))) = (fun j => (fun j => if j < n then fz s (f j) else 0) j * (fz s 1 * fp (fz s x) j)) := by
    funext j
    rw [fz_mul, fz_fac]
    dsimp only
    split <;> rfl
  rw [e, pf_scale, fz_one]
  obtain ⟨d, hd⟩ : ∃ d, 2 ^ k = n + d := ⟨2 ^ k - n, by omega⟩
  rw [hd, pf_pad _ _ _ _ (fun j hj => by rw [if_neg (by omega)]), pf_congr _ n (g := fun j => fz s (f j)) (fun j hj => by rw [if_pos hj])]
  grind
set_option maxHeartbeats 8000000 in
set_option maxRecDepth 20000 in
theorem dVals_in (s k n x : Nat) (v : Value) (f : Nat → Nat) (hs : s < 4) (hk : k ≤ 9) (hx : x < 115792089237316195423570985008687907853269984665640564039457584007913129639936) (hnz : x % modN s ≠ 0) (hn : n ≤ 2 ^ k) (hf : ∀ i, i < n → f i < 115792089237316195423570985008687907853269984665640564039457584007913129639936) (w : World) (hg : GlobD w) (hv : Es w v n f) :
    Calls Tryd.prog 19 #[.int .i64 (s : Int), .int .i64 (k : Int), .agg #[.int .u64 ((limb 0 (x) : Nat) : Int), .int .u64 ((limb 1 (x) : Nat) : Int), .int .u64 ((limb 2 (x) : Nat) : Int), .int .u64 ((limb 3 (x) : Nat) : Int)], v] w fun e w' => (∃ g F, e = .returned (.tuple #[.slice (some ⟨g, 0, none⟩) (2 ^ k) (2 ^ k), .int .i64 0]) ∧ w.heap.size ≤ g ∧ BlkE w' g (2 ^ k) F ∧ ValP s k x n f F) ∧ Below w.heap.size w w' := by
  obtain ⟨i0, hi, hz0, hz1, hz2⟩ := elemInfo
  have HI := (show Hid _ from hi); have HZ := (show Hid _ from And.intro hz0 (And.intro hz1 hz2)); clear hi hz0 hz1 hz2
  obtain ⟨oa, cn, rfl⟩ := hv.shape
  have HSC : Hid (∀ (b : Nat) (F : Nat → Nat) w, (∀ i, i < 2 ^ k → F i < 115792089237316195423570985008687907853269984665640564039457584007913129639936) → GlobD w → 3 ≤ b → BlkE w b (2 ^ k) F → _) := fun b F w hF hg hb hB => dscale_any s (2 ^ k) 1 x b F hs (pow9 hk).2 (by decide) hx hF w hg hb hB
  have HTR : Hid (∀ (b : Nat) (F : Nat → Nat) w, (∀ i, i < 2 ^ k → F i < 115792089237316195423570985008687907853269984665640564039457584007913129639936) → GlobD w → 3 ≤ b → BlkE w b (2 ^ k) F → _) := fun b F w hF hg hb hB => dtrans_any s k b F hs hk hF w hg hb hB
  have HVO : Hid (∀ F, TrP s k (rootP s k) (fun i => mulP s (if i < n then f i else 0) (facP s 1 x i)) F → ValP s k x n f F) := fun F h => val_ok hn h
  have HC : Hid (∀ w, GlobD w → _) := fun w hg => dshift_any (s : Int) (k : Int) x hx w hg
  rw [shf_in hs hk hnz] at HC
  have HG : Hid (GlobD w) := hg
  obtain ⟨N, eN⟩ : ∃ N, N = 2 ^ k := ⟨_, rfl⟩
  have hN := pow9 hk
  rw [← eN] at hN
  have HSH : Hid (IntKind.i64.wrap (2 ^ k) = (N : Int)) := by
    have : (2 : Int) ^ k = (N : Int) := by rw [eN]; simp
    rw [this]
    exact wrap_i64_nat N (by omega)
  have hk63 : ¬ (k : Int) < 0 := by omega
  have HF : Hid (∀ i, i < n → f i < 115792089237316195423570985008687907853269984665640564039457584007913129639936) := hf
  have HV : Hid (Es w (.slice oa n cn) n f) := hv
  rw [← eN] at hn HSC HTR ⊢
  have hni : ¬ (N : Int) < (n : Int) := by omega
  clear hg eN hf hv
  go_enter Tryd.func19, Tryd.ntmps19
  go_upto_region 1 with fail
  obtain ⟨w0, hw0⟩ : ∃ z : World, z = w.alloc (.cells #[.int .u64 ((limb 0 (x) : Nat) : Int), .int .u64 ((limb 1 (x) : Nat) : Int), .int .u64 ((limb 2 (x) : Nat) : Int), .int .u64 ((limb 3 (x) : Nat) : Int)] 24) := ⟨_, rfl⟩
  obtain ⟨N6, e6⟩ : ∃ N, N = w.heap.size := ⟨_, rfl⟩
  have bx0 : Blk w0 24 N6 (fun i => limb i x) := by rw [hw0]; exact Blk.newAt _ _ _ (fun i => limb i x) e6
  have hb0 : Below w.heap.size w w0 := by rw [hw0]; exact bAlloc (Below.refl _ _) _
  have l6 : w.heap.size ≤ N6 := by omega
  rw [← hw0, ← e6]
  clear hw0 e6
  have cx := bx0.cell
  go_wp2_with fail
  refine (HC.out _ (HG.out.below hb0)).mono ?_
  rintro e w1 ⟨rfl, hb1⟩
  have hbw1 := bStep hb0 hb1
  have bx1 := bx0.belowAll hb1
  clear bx0 hb0 hb1 HC cx
  have hsh := HSH.out
  have lw1 := hbw1.size
  have H3 : Hid (3 ≤ w.heap.size) := HG.out.ge
  go_wp2_with (first
    | (at_make; refine wpList_make_full _ rfl _ _ 27 rfl w1.heap.size 24 i0 (.agg #[.int .u64 0, .int .u64 0, .int .u64 0, .int .u64 0]) 4 Tryd.underlying27 HI.out HZ.out.1 HZ.out.2.1 .i64 .i64 N N N rfl rfl rfl rfl ?c1 ?c2 (Nat.le_refl _) ?_)
    | go_in)
  case c1 => rw [HZ.out.2.2]; omega
  case c2 => unfold maxLen; omega
  intro w2 hown hgrow
  obtain ⟨G, eG⟩ : ∃ G, G = w1.heap.size := ⟨_, rfl⟩
  rw [← eG] at hown ⊢
  have bo2 : BlkE w2 G N (fun _ => 0) := (own_blkE (f := fun _ => 0) hown (fun i hi j hj => by rw [made_zero N (i * 4 + j) (by omega), limb_zero]; rfl)).1
  have hbe : Below w1.heap.size w1 w2 := (Below.refl _ w1).grown hgrow (Nat.le_refl _) (fun j hj => by cases hj)
  have bx2 := bx1.belowAll hbe
  have hbw2 := bStep hbw1 hbe
  have lG6 : N6 < G := by rw [eG]; exact bx1.lt
  have lGw : w.heap.size ≤ G := by omega
  clear hown hgrow hbe bx1 hbw1 eG lw1 hsh
  have HV2 : Hid (Es w2 (.slice oa n cn) n f) := HV.out.below hbw2
  obtain ⟨w3, hrun, bo3, hk3⟩ := copyE_run w2 3 G N n (fun _ => 0) f _ HV2.out (by omega) bo2
  have bx3 := bx2.kept (by omega) hk3
  have hbw3 := bKept hbw2 lGw hk3
  have HG3 : Hid (GlobD w3) := HG.out.below hbw3
  clear bo2 hk3 bx2 hbw2 HV2
  go_upto_region 8 with fail
  clear hrun
  have cg := HG3.out.2
  have cx := bx3.cell
  have l11 := limb_one
  obtain ⟨o0, o1, o2, o3⟩ := limb_one
  rw [o0, o1, o2, o3] at HSC
  have c0 := cg 0 (by decide); have c1 := cg 1 (by decide); have c2 := cg 2 (by decide); have c3 := cg 3 (by decide)
  rw [o0] at c0; rw [o1] at c1; rw [o2] at c2; rw [o3] at c3
  clear cg l11 o0 o1 o2 o3
  have H3G : Hid (3 ≤ G) := Nat.le_trans H3.out lGw
  go_wp2_with fail
  refine (HSC.out G _ w3 (fun i hi => ?hF1) HG3.out H3G.out bo3).mono ?_
  case hF1 =>
    by_cases c : i < n
    · rw [if_pos c]; exact HF.out i c
    · rw [if_neg c]; decide
  rintro e w4 ⟨rfl, bo4, hk4⟩
  have hbw4 := bKept hbw3 lGw hk4
  have HG4 : Hid (GlobD w4) := HG.out.below hbw4
  clear bo3 hk4 hbw3 HG3 bx3 cx c0 c1 c2 c3
  go_wp2_with fail
  refine (HTR.out G _ w4 (fun i hi => mulP_M _ _ _) HG4.out H3G.out bo4).mono ?_
  rintro e w5 ⟨rfl, ⟨F, bo5, hF5⟩, hk5⟩
  have hbw5 := bKept hbw4 lGw hk5
  have HVP : Hid (ValP s k x n f F) := HVO.out F hF5
  clear bo4 hk5 hbw4 HG4 hF5
  go_wp2
  go_ret2
  exact ⟨⟨G, F, rfl, lGw, bo5, HVP.out⟩, hbw5⟩
end Go.Proofs.YtfkdfngegeeciaaDoor
