/- domain: join. -/
import Derived.Test.YtfkdfngegeeciaaDoorD6
namespace Go.Proofs.YtfkdfngegeeciaaDoor
open Go.RowKit

def Kp (W w' : World) : Prop := Below W.heap.size W w'
theorem pkA {W w : World} (hS : Below W.heap.size W w) : ∃ (N : Nat) (w' : World), w.heap.size = N ∧ w.alloc (.cells #[.int .u64 0, .int .u64 0, .int .u64 0, .int .u64 0] 24) = w' ∧ Below W.heap.size W w' ∧ Blk w' 24 N (fun _ => 0) ∧ W.heap.size ≤ N ∧ Below w.heap.size w w' :=
  ⟨_, _, rfl, rfl, bAlloc hS _, Blk.new w 24 (fun _ => 0), hS.size, (Below.refl _ _).alloc (Nat.le_refl _) _⟩
theorem pkD (W : World) : ∃ (N : Nat) (w' : World), W.heap.size = N ∧ (W.alloc (.cells #[.int .u64 0, .int .u64 0, .int .u64 0, .int .u64 0] 24)).drew = w' ∧ Below W.heap.size W w' ∧ Blk w' 24 N (fun _ => 0) ∧ W.heap.size ≤ N ∧ Below W.heap.size W.drew w' :=
  ⟨_, _, rfl, rfl, (bAlloc (Below.refl _ _) _).drew, (Blk.new W 24 (fun _ => 0)).drew, Nat.le_refl _, ((Below.refl _ W.drew).alloc (Nat.le_refl _) _)⟩
/-- A variable that is new is written. -/
theorem pkS {W w : World} {N : Nat} {f : Nat → Nat} (b : Blk w 24 N f) (hS : Below W.heap.size W w) (hl : W.heap.size ≤ N) (v : Nat) :
    ∃ w' : World, (((w.setCell ⟨N, 0, none⟩ (.int .u64 ((limb 0 v : Nat) : Int))).setCell ⟨N, 1, none⟩ (.int .u64 ((limb 1 v : Nat) : Int))).setCell ⟨N, 2, none⟩ (.int .u64 ((limb 2 v : Nat) : Int))).setCell ⟨N, 3, none⟩ (.int .u64 ((limb 3 v : Nat) : Int)) = w' ∧ Below W.heap.size W w' ∧ Blk w' 24 N (fun i => limb i v) ∧ ∀ {M : Nat} {g : Nat → Nat}, Blk w 24 M g → M ≠ N → Blk w' 24 M g :=
  ⟨_, rfl, bSet4 hS hl _ _ _ _, b.set4 (fun i => limb i v), fun h ne => h.other4 ne _ _ _ _⟩


theorem BlkE.at4 {w : World} {b n k o : Nat} {f : Nat → Nat} (h : BlkE w b n f) (hk : k < n) (ho : o = k * 4) : w.cell? ⟨b, o, none⟩ = some (.int .u64 ((limb 0 (f k) : Nat) : Int)) ∧ w.cell? ⟨b, o + 1, none⟩ = some (.int .u64 ((limb 1 (f k) : Nat) : Int)) ∧ w.cell? ⟨b, o + 2, none⟩ = some (.int .u64 ((limb 2 (f k) : Nat) : Int)) ∧ w.cell? ⟨b, o + 3, none⟩ = some (.int .u64 ((limb 3 (f k) : Nat) : Int)) := by
  subst ho
  exact ⟨h.cell k hk 0 (by decide), h.cell k hk 1 (by decide), h.cell k hk 2 (by decide), h.cell k hk 3 (by decide)⟩
theorem BlkE.putAt {w : World} {b n k o : Nat} {f : Nat → Nat} (h : BlkE w b n f) (hk : k < n) (ho : o = k * 4) (x : Nat) : ∃ w', ((((w.setCell ⟨b, o, none⟩ (.int .u64 ((limb 0 x : Nat) : Int))).setCell ⟨b, o + 1, none⟩ (.int .u64 ((limb 1 x : Nat) : Int))).setCell ⟨b, o + 2, none⟩ (.int .u64 ((limb 2 x : Nat) : Int))).setCell ⟨b, o + 3, none⟩ (.int .u64 ((limb 3 x : Nat) : Int))) = w' ∧ BlkE w' b n (fun i => if i = k then x else f i) ∧ Kept b w w' := by
  subst ho
  exact h.put hk x
/-- The list when the first j of both pieces are joined. -/
def jnF (s : Nat) (P f : Nat → Nat) (e0 h st j i : Nat) : Nat :=
  if e0 ≤ i ∧ i < e0 + j then addP s (f i) (mulP s (P ((i - e0) * st)) (f (i + h)))
  else if e0 + h ≤ i ∧ i < e0 + h + j then subP s (f (i - h)) (mulP s (P ((i - (e0 + h)) * st)) (f i)) else f i
theorem jnF_old {s : Nat} {P f : Nat → Nat} {e0 h st j : Nat} (hj : j < h) : jnF s P f e0 h st j (e0 + j) = f (e0 + j) ∧ jnF s P f e0 h st j (e0 + h + j) = f (e0 + h + j) := by
  unfold jnF
  constructor
  · rw [if_neg (by omega), if_neg (by omega)]
  · rw [if_neg (by omega), if_neg (by omega)]
theorem jnF_step {s : Nat} {P f : Nat → Nat} {e0 h st j : Nat} (hj : j < h) (i : Nat) : jnF s P f e0 h st (j + 1) i = if i = e0 + h + j then subP s (f (e0 + j)) (mulP s (P (j * st)) (f (e0 + h + j))) else if i = e0 + j then addP s (f (e0 + j)) (mulP s (P (j * st)) (f (e0 + h + j))) else jnF s P f e0 h st j i := by
  by_cases h1 : i = e0 + h + j
  · subst h1
    rw [if_pos rfl]
    unfold jnF
    rw [if_neg (by omega), if_pos (by omega), show e0 + h + j - h = e0 + j by omega, show e0 + h + j - (e0 + h) = j by omega]
  · rw [if_neg h1]
    by_cases h2 : i = e0 + j
    · subst h2
      rw [if_pos rfl]
      unfold jnF
      rw [if_pos (by omega), show e0 + j - e0 = j by omega, show e0 + j + h = e0 + h + j by omega]
    · rw [if_neg h2]
      unfold jnF
      by_cases h3 : e0 ≤ i ∧ i < e0 + j
      · rw [if_pos h3, if_pos (by omega)]
      · rw [if_neg h3, if_neg (by omega)]
        by_cases h4 : e0 + h ≤ i ∧ i < e0 + h + j
        · rw [if_pos h4, if_pos (by omega)]
        · rw [if_neg h4, if_neg (by omega)]
set_option maxHeartbeats 8000000 in
set_option maxRecDepth 20000 in
theorem djoin_any (s st h b g M N e0 oe oo ce co : Nat) (P f : Nat → Nat) (hs : s < 4) (hoe : oe = e0 * 4) (hoo : oo = (e0 + h) * 4) (hN : e0 + 2 * h ≤ N) (hN5 : N ≤ 512) (hM5 : M ≤ 512) (hst : ∀ j, j < h → j * st < M) (hf : ∀ i, i < N → f i < 115792089237316195423570985008687907853269984665640564039457584007913129639936) (hP : ∀ i, i < M → P i < 115792089237316195423570985008687907853269984665640564039457584007913129639936) (w : World) (hg : GlobD w) (hb3 : 3 ≤ b) (hgb : g ≠ b) (hB : BlkE w b N f) (hG : BlkE w g M P) :
    Calls Tryd.prog 68 #[.int .i64 (s : Int), .int .i64 (st : Int), .slice (some ⟨g, 0, none⟩) M M, .slice (some ⟨b, oe, none⟩) h ce, .slice (some ⟨b, oo, none⟩) h co] w fun e w' => e = .returned (.tuple #[]) ∧ BlkE w' b N (jnF s P f e0 h st h) ∧ Kept b w w' := by
  have HGL : Hid (GlobD w) := hg
  have HEE : Hid (oe = e0 * 4 ∧ oo = (e0 + h) * 4) := ⟨hoe, hoo⟩
  have HF : Hid (∀ i, i < N → f i < 115792089237316195423570985008687907853269984665640564039457584007913129639936) := hf
  have HP : Hid (∀ i, i < M → P i < 115792089237316195423570985008687907853269984665640564039457584007913129639936) := hP
  have HST : Hid (∀ j, j < h → j * st < M) := hst
  have HMM : Hid (∀ a b, a < 115792089237316195423570985008687907853269984665640564039457584007913129639936 → b < 115792089237316195423570985008687907853269984665640564039457584007913129639936 → ∀ w, Glob w → Calls Tryd.prog 25 #[.int .i64 (s : Int), .agg #[.int .u64 ((limb 0 (a) : Nat) : Int), .int .u64 ((limb 1 (a) : Nat) : Int), .int .u64 ((limb 2 (a) : Nat) : Int), .int .u64 ((limb 3 (a) : Nat) : Int)], .agg #[.int .u64 ((limb 0 (b) : Nat) : Int), .int .u64 ((limb 1 (b) : Nat) : Int), .int .u64 ((limb 2 (b) : Nat) : Int), .int .u64 ((limb 3 (b) : Nat) : Int)]] w fun e w' => e = .returned (.agg #[.int .u64 ((limb 0 (mulP s a b) : Nat) : Int), .int .u64 ((limb 1 (mulP s a b) : Nat) : Int), .int .u64 ((limb 2 (mulP s a b) : Nat) : Int), .int .u64 ((limb 3 (mulP s a b) : Nat) : Int)]) ∧ Below w.heap.size w w') := fun a b ha hb w hg => fMul_any s a b hs ha hb w hg
  have HAA : Hid (∀ a b, a < 115792089237316195423570985008687907853269984665640564039457584007913129639936 → b < 115792089237316195423570985008687907853269984665640564039457584007913129639936 → ∀ w, Glob w → Calls Tryd.prog 24 #[.int .i64 (s : Int), .agg #[.int .u64 ((limb 0 (a) : Nat) : Int), .int .u64 ((limb 1 (a) : Nat) : Int), .int .u64 ((limb 2 (a) : Nat) : Int), .int .u64 ((limb 3 (a) : Nat) : Int)], .agg #[.int .u64 ((limb 0 (b) : Nat) : Int), .int .u64 ((limb 1 (b) : Nat) : Int), .int .u64 ((limb 2 (b) : Nat) : Int), .int .u64 ((limb 3 (b) : Nat) : Int)]] w fun e w' => e = .returned (.agg #[.int .u64 ((limb 0 (addP s a b) : Nat) : Int), .int .u64 ((limb 1 (addP s a b) : Nat) : Int), .int .u64 ((limb 2 (addP s a b) : Nat) : Int), .int .u64 ((limb 3 (addP s a b) : Nat) : Int)]) ∧ Below w.heap.size w w') := fun a b ha hb w hg => fAdd_any s a b hs ha hb w hg
  have HSS : Hid (∀ a b, a < 115792089237316195423570985008687907853269984665640564039457584007913129639936 → b < 115792089237316195423570985008687907853269984665640564039457584007913129639936 → ∀ w, Glob w → Calls Tryd.prog 38 #[.int .i64 (s : Int), .agg #[.int .u64 ((limb 0 (a) : Nat) : Int), .int .u64 ((limb 1 (a) : Nat) : Int), .int .u64 ((limb 2 (a) : Nat) : Int), .int .u64 ((limb 3 (a) : Nat) : Int)], .agg #[.int .u64 ((limb 0 (b) : Nat) : Int), .int .u64 ((limb 1 (b) : Nat) : Int), .int .u64 ((limb 2 (b) : Nat) : Int), .int .u64 ((limb 3 (b) : Nat) : Int)]] w fun e w' => e = .returned (.agg #[.int .u64 ((limb 0 (subP s a b) : Nat) : Int), .int .u64 ((limb 1 (subP s a b) : Nat) : Int), .int .u64 ((limb 2 (subP s a b) : Nat) : Int), .int .u64 ((limb 3 (subP s a b) : Nat) : Int)]) ∧ Below w.heap.size w w') := fun a b ha hb w hg => fSub_any s a b hs ha hb w hg
  clear hg hoe hoo hf hP hst hs
  go_enter Tryd.func68, Tryd.ntmps68
  go_wp2
  go_loopw [15] (fun iv wr => ∃ j : Nat, iv = .int .i64 (j : Int) ∧ j ≤ h ∧ Kept b w wr ∧ BlkE wr b N (jnF s P f e0 h st j)) (fun iv _ => h - (intOf iv).toNat)
  case atStart => exact ⟨0, rfl, Nat.zero_le _, Kept.refl _ _, hB.congr (fun i _ => by unfold jnF; rw [if_neg (by omega), if_neg (by omega)])⟩
  case round =>
    obtain ⟨j, rfl, hj, hkr, bo⟩ := hrel
    by_cases hlt : j < h
    · have hji : (j : Int) < (h : Int) := by omega
      have hi1 : e0 + j < N := by omega
      have hi2 : e0 + h + j < N := by omega
      have lq := HST.out j hlt
      obtain ⟨q, eq⟩ : ∃ q, q = j * st := ⟨_, rfl⟩
      rw [← eq] at lq
      have lqi : (q : Int) < (M : Int) := by omega
      have hmq : (j : Int) * (st : Int) = (q : Int) := by rw [eq]; simp
      have hmw : IntKind.i64.wrap (q : Int) = (q : Int) := wrap_i64_nat q (by omega)
      have bg := hG.kept hgb hkr
      obtain ⟨jx, jy⟩ := jnF_old (s := s) (P := P) (f := f) (e0 := e0) (st := st) hlt
      obtain ⟨x, ex⟩ : ∃ z, z = f (e0 + j) := ⟨_, rfl⟩
      obtain ⟨y, ey⟩ : ∃ z, z = f (e0 + h + j) := ⟨_, rfl⟩
      obtain ⟨p, ep⟩ : ∃ z, z = P q := ⟨_, rfl⟩
      obtain ⟨m, em⟩ : ∃ z, z = mulP s p y := ⟨_, rfl⟩
      obtain ⟨u, eu⟩ : ∃ z, z = addP s x m := ⟨_, rfl⟩
      obtain ⟨t, et⟩ : ∃ z, z = subP s x m := ⟨_, rfl⟩
      have hxM : x < 115792089237316195423570985008687907853269984665640564039457584007913129639936 := by rw [ex]; exact HF.out _ hi1
      have hyM : y < 115792089237316195423570985008687907853269984665640564039457584007913129639936 := by rw [ey]; exact HF.out _ hi2
      have hpM : p < 115792089237316195423570985008687907853269984665640564039457584007913129639936 := by rw [ep]; exact HP.out q lq
      have hmM : m < 115792089237316195423570985008687907853269984665640564039457584007913129639936 := by rw [em]; exact mulP_M _ _ _
      have HMU : Hid (∀ w, Glob w → Calls Tryd.prog 25 #[.int .i64 (s : Int), .agg #[.int .u64 ((limb 0 (p) : Nat) : Int), .int .u64 ((limb 1 (p) : Nat) : Int), .int .u64 ((limb 2 (p) : Nat) : Int), .int .u64 ((limb 3 (p) : Nat) : Int)], .agg #[.int .u64 ((limb 0 (y) : Nat) : Int), .int .u64 ((limb 1 (y) : Nat) : Int), .int .u64 ((limb 2 (y) : Nat) : Int), .int .u64 ((limb 3 (y) : Nat) : Int)]] w fun e w' => e = .returned (.agg #[.int .u64 ((limb 0 (m) : Nat) : Int), .int .u64 ((limb 1 (m) : Nat) : Int), .int .u64 ((limb 2 (m) : Nat) : Int), .int .u64 ((limb 3 (m) : Nat) : Int)]) ∧ Below w.heap.size w w') := by rw [em]; exact HMM.out p y hpM hyM
      have HAD : Hid (∀ w, Glob w → Calls Tryd.prog 24 #[.int .i64 (s : Int), .agg #[.int .u64 ((limb 0 (x) : Nat) : Int), .int .u64 ((limb 1 (x) : Nat) : Int), .int .u64 ((limb 2 (x) : Nat) : Int), .int .u64 ((limb 3 (x) : Nat) : Int)], .agg #[.int .u64 ((limb 0 (m) : Nat) : Int), .int .u64 ((limb 1 (m) : Nat) : Int), .int .u64 ((limb 2 (m) : Nat) : Int), .int .u64 ((limb 3 (m) : Nat) : Int)]] w fun e w' => e = .returned (.agg #[.int .u64 ((limb 0 (u) : Nat) : Int), .int .u64 ((limb 1 (u) : Nat) : Int), .int .u64 ((limb 2 (u) : Nat) : Int), .int .u64 ((limb 3 (u) : Nat) : Int)]) ∧ Below w.heap.size w w') := by rw [eu]; exact HAA.out x m hxM hmM
      have HSU : Hid (∀ w, Glob w → Calls Tryd.prog 38 #[.int .i64 (s : Int), .agg #[.int .u64 ((limb 0 (x) : Nat) : Int), .int .u64 ((limb 1 (x) : Nat) : Int), .int .u64 ((limb 2 (x) : Nat) : Int), .int .u64 ((limb 3 (x) : Nat) : Int)], .agg #[.int .u64 ((limb 0 (m) : Nat) : Int), .int .u64 ((limb 1 (m) : Nat) : Int), .int .u64 ((limb 2 (m) : Nat) : Int), .int .u64 ((limb 3 (m) : Nat) : Int)]] w fun e w' => e = .returned (.agg #[.int .u64 ((limb 0 (t) : Nat) : Int), .int .u64 ((limb 1 (t) : Nat) : Int), .int .u64 ((limb 2 (t) : Nat) : Int), .int .u64 ((limb 3 (t) : Nat) : Int)]) ∧ Below w.heap.size w w') := by rw [et]; exact HSS.out x m hxM hmM
      have HE1 : Hid (oe + j * 4 = (e0 + j) * 4) := by have := HEE.out.1; show _ = _; omega
      have HE2 : Hid (oo + j * 4 = (e0 + h + j) * 4) := by have := HEE.out.2; show _ = _; omega
      have HCX : Hid (∀ w', Below wr.heap.size wr w' → w'.cell? ⟨b, (oe + j * 4), none⟩ = some (.int .u64 ((limb 0 x : Nat) : Int)) ∧ w'.cell? ⟨b, (oe + j * 4) + 1, none⟩ = some (.int .u64 ((limb 1 x : Nat) : Int)) ∧ w'.cell? ⟨b, (oe + j * 4) + 2, none⟩ = some (.int .u64 ((limb 2 x : Nat) : Int)) ∧ w'.cell? ⟨b, (oe + j * 4) + 3, none⟩ = some (.int .u64 ((limb 3 x : Nat) : Int))) := fun w' hb => by
        have := (bo.belowAll hb).at4 hi1 HE1.out
        rw [jx, ← ex] at this
        exact this
      have HCY : Hid (∀ w', Below wr.heap.size wr w' → w'.cell? ⟨b, (oo + j * 4), none⟩ = some (.int .u64 ((limb 0 y : Nat) : Int)) ∧ w'.cell? ⟨b, (oo + j * 4) + 1, none⟩ = some (.int .u64 ((limb 1 y : Nat) : Int)) ∧ w'.cell? ⟨b, (oo + j * 4) + 2, none⟩ = some (.int .u64 ((limb 2 y : Nat) : Int)) ∧ w'.cell? ⟨b, (oo + j * 4) + 3, none⟩ = some (.int .u64 ((limb 3 y : Nat) : Int))) := fun w' hb => by
        have := (bo.belowAll hb).at4 hi2 HE2.out
        rw [jy, ← ey] at this
        exact this
      have HCP : Hid (∀ w', Below wr.heap.size wr w' → w'.cell? ⟨g, (q * 4), none⟩ = some (.int .u64 ((limb 0 p : Nat) : Int)) ∧ w'.cell? ⟨g, (q * 4) + 1, none⟩ = some (.int .u64 ((limb 1 p : Nat) : Int)) ∧ w'.cell? ⟨g, (q * 4) + 2, none⟩ = some (.int .u64 ((limb 2 p : Nat) : Int)) ∧ w'.cell? ⟨g, (q * 4) + 3, none⟩ = some (.int .u64 ((limb 3 p : Nat) : Int))) := fun w' hb => by
        have := (bg.belowAll hb).at4 lq (rfl : q * 4 = q * 4)
        rw [← ep] at this
        exact this
      have HJN : Hid (∀ i, i < N → jnF s P f e0 h st (j + 1) i = if i = e0 + h + j then t else if i = e0 + j then u else jnF s P f e0 h st j i) := fun i _ => by rw [jnF_step hlt, et, eu, em, ex, ey, ep, eq]
      have HGR : Hid (Glob wr) := (HGL.out.kept hb3 hkr).1
      clear ex ey ep em eu et jx jy eq bg hxM hyM hpM hmM
      go_upto_region 3 with fail
      go_cut [11, 12] (fun pv qv wx => ∃ A1 A2, pv = .pointer (some ⟨A1, 0, none⟩) ∧ qv = .pointer (some ⟨A2, 0, none⟩) ∧ A1 ≠ A2 ∧ wr.heap.size ≤ A1 ∧ wr.heap.size ≤ A2 ∧ Below wr.heap.size wr wx ∧ Blk wx 24 A1 (fun i => limb i x) ∧ Blk wx 24 A2 (fun i => limb i m))
      case first =>
        have HS0 : Hid (Below wr.heap.size wr wr.drew) := (Below.refl _ _).drew
        refine wp_region_Z (fun w' => Kp wr w') 99 (by kernel_rfl) ?_
        refine wpZ_take (i := 0) (v := .slice (some ⟨b, oe, none⟩) h ce) 18 rfl rfl (by kernel_rfl) (by kernel_rfl) (by kernel_rfl) (Or.inr (by decide)) (fun _ _ _ h => h) (Or.inl ⟨by rfl, fun w hSw => by go_simp⟩) (HS0.out) ?_
        simp only [Act.put, List.setIfInBounds_toArray]
        dsimp only [List.set_cons_zero, List.set_cons_succ]
        refine wpZ_take (i := 1) (v := .int .i64 (j : Int)) 19 rfl rfl (by kernel_rfl) (by kernel_rfl) (by kernel_rfl) (Or.inr (by decide)) (fun _ _ _ h => h) (Or.inl ⟨by rfl, fun w hSw => by go_simp⟩) (HS0.out) ?_
        simp only [Act.put, List.setIfInBounds_toArray]
        dsimp only [List.set_cons_zero, List.set_cons_succ]
        refine wpZ_take (i := 2) (v := .pointer (some ⟨b, (oe + j * 4), none⟩)) 20 rfl rfl (by kernel_rfl) (by kernel_rfl) (by kernel_rfl) (Or.inr (by decide)) (fun _ _ _ h => h) (Or.inl ⟨by rfl, fun w hSw => by go_simp⟩) (HS0.out) ?_
        simp only [Act.put, List.setIfInBounds_toArray]
        dsimp only [List.set_cons_zero, List.set_cons_succ]
        refine wpZ_take (i := 3) (v := .agg #[.int .u64 ((limb 0 (x) : Nat) : Int), .int .u64 ((limb 1 (x) : Nat) : Int), .int .u64 ((limb 2 (x) : Nat) : Int), .int .u64 ((limb 3 (x) : Nat) : Int)]) 21 rfl rfl (by kernel_rfl) (by kernel_rfl) (by kernel_rfl) (Or.inr (by decide)) (fun _ _ _ h => h) (Or.inl ⟨by rfl, fun w hSw => by (obtain ⟨q0, q1, q2, q3⟩ := HCX.out w hSw; clear hSw; go_simp)⟩) (HS0.out) ?_
        simp only [Act.put, List.setIfInBounds_toArray]
        dsimp only [List.set_cons_zero, List.set_cons_succ]
        refine wpZ_take (i := 4) (v := .int .i64 (s : Int)) 22 rfl rfl (by kernel_rfl) (by kernel_rfl) (by kernel_rfl) (Or.inr (by decide)) (fun _ _ _ h => h) (Or.inl ⟨by rfl, fun w hSw => by go_simp⟩) (HS0.out) ?_
        simp only [Act.put, List.setIfInBounds_toArray]
        dsimp only [List.set_cons_zero, List.set_cons_succ]
        refine wpZ_take (i := 5) (v := .slice (some ⟨g, 0, none⟩) M M) 23 rfl rfl (by kernel_rfl) (by kernel_rfl) (by kernel_rfl) (Or.inr (by decide)) (fun _ _ _ h => h) (Or.inl ⟨by rfl, fun w hSw => by go_simp⟩) (HS0.out) ?_
        simp only [Act.put, List.setIfInBounds_toArray]
        dsimp only [List.set_cons_zero, List.set_cons_succ]
        refine wpZ_take (i := 6) (v := .int .i64 (j : Int)) 24 rfl rfl (by kernel_rfl) (by kernel_rfl) (by kernel_rfl) (Or.inr (by decide)) (fun _ _ _ h => h) (Or.inl ⟨by rfl, fun w hSw => by go_simp⟩) (HS0.out) ?_
        simp only [Act.put, List.setIfInBounds_toArray]
        dsimp only [List.set_cons_zero, List.set_cons_succ]
        refine wpZ_take (i := 7) (v := .int .i64 (st : Int)) 25 rfl rfl (by kernel_rfl) (by kernel_rfl) (by kernel_rfl) (Or.inr (by decide)) (fun _ _ _ h => h) (Or.inl ⟨by rfl, fun w hSw => by go_simp⟩) (HS0.out) ?_
        simp only [Act.put, List.setIfInBounds_toArray]
        dsimp only [List.set_cons_zero, List.set_cons_succ]
        refine wpZ_take (i := 8) (v := .int .i64 (q : Int)) 26 rfl rfl (by kernel_rfl) (by kernel_rfl) (by kernel_rfl) (Or.inr (by decide)) (fun _ _ _ h => h) (Or.inl ⟨by rfl, fun w hSw => by go_simp⟩) (HS0.out) ?_
        simp only [Act.put, List.setIfInBounds_toArray]
        dsimp only [List.set_cons_zero, List.set_cons_succ]
        refine wpZ_take (i := 9) (v := .pointer (some ⟨g, (q * 4), none⟩)) 27 rfl rfl (by kernel_rfl) (by kernel_rfl) (by kernel_rfl) (Or.inr (by decide)) (fun _ _ _ h => h) (Or.inl ⟨by rfl, fun w hSw => by go_simp⟩) (HS0.out) ?_
        simp only [Act.put, List.setIfInBounds_toArray]
        dsimp only [List.set_cons_zero, List.set_cons_succ]
        refine wpZ_take (i := 10) (v := .agg #[.int .u64 ((limb 0 (p) : Nat) : Int), .int .u64 ((limb 1 (p) : Nat) : Int), .int .u64 ((limb 2 (p) : Nat) : Int), .int .u64 ((limb 3 (p) : Nat) : Int)]) 28 rfl rfl (by kernel_rfl) (by kernel_rfl) (by kernel_rfl) (Or.inr (by decide)) (fun _ _ _ h => h) (Or.inl ⟨by rfl, fun w hSw => by (obtain ⟨q0, q1, q2, q3⟩ := HCP.out w hSw; clear hSw; go_simp)⟩) (HS0.out) ?_
        simp only [Act.put, List.setIfInBounds_toArray]
        dsimp only [List.set_cons_zero, List.set_cons_succ]
        refine wpZ_take (i := 11) (v := .slice (some ⟨b, oo, none⟩) h co) 29 rfl rfl (by kernel_rfl) (by kernel_rfl) (by kernel_rfl) (Or.inr (by decide)) (fun _ _ _ h => h) (Or.inl ⟨by rfl, fun w hSw => by go_simp⟩) (HS0.out) ?_
        simp only [Act.put, List.setIfInBounds_toArray]
        dsimp only [List.set_cons_zero, List.set_cons_succ]
        refine wpZ_take (i := 12) (v := .int .i64 (j : Int)) 30 rfl rfl (by kernel_rfl) (by kernel_rfl) (by kernel_rfl) (Or.inr (by decide)) (fun _ _ _ h => h) (Or.inl ⟨by rfl, fun w hSw => by go_simp⟩) (HS0.out) ?_
        simp only [Act.put, List.setIfInBounds_toArray]
        dsimp only [List.set_cons_zero, List.set_cons_succ]
        refine wpZ_take (i := 13) (v := .pointer (some ⟨b, (oo + j * 4), none⟩)) 31 rfl rfl (by kernel_rfl) (by kernel_rfl) (by kernel_rfl) (Or.inr (by decide)) (fun _ _ _ h => h) (Or.inl ⟨by rfl, fun w hSw => by go_simp⟩) (HS0.out) ?_
        simp only [Act.put, List.setIfInBounds_toArray]
        dsimp only [List.set_cons_zero, List.set_cons_succ]
        refine wpZ_take (i := 14) (v := .agg #[.int .u64 ((limb 0 (y) : Nat) : Int), .int .u64 ((limb 1 (y) : Nat) : Int), .int .u64 ((limb 2 (y) : Nat) : Int), .int .u64 ((limb 3 (y) : Nat) : Int)]) 32 rfl rfl (by kernel_rfl) (by kernel_rfl) (by kernel_rfl) (Or.inr (by decide)) (fun _ _ _ h => h) (Or.inl ⟨by rfl, fun w hSw => by (obtain ⟨q0, q1, q2, q3⟩ := HCY.out w hSw; clear hSw; go_simp)⟩) (HS0.out) ?_
        simp only [Act.put, List.setIfInBounds_toArray]
        dsimp only [List.set_cons_zero, List.set_cons_succ]
        refine wpZ_three (i := 15) (j := 16) (l := 17) (by kernel_rfl) rfl rfl rfl (fun K hK => ?_) (fun K hK => ?_) (fun K hK => ?_) 
        · go_simp
          refine (HMU.out wr.drew (HGR.out.below (HS0.out))).mono ?_
          rintro e wK1 ⟨rfl, hbK1⟩
          have hSK1 : Below wr.heap.size wr wK1 := bStep (HS0.out) hbK1
          go_wp2_with fail
          refine hK.out _ _ (fun _ => hSK1) ?_
          clear hK K
          refine wpZ_two (i := 16) (j := 17) (by kernel_rfl) rfl rfl (fun K hK => ?_) (fun K hK => ?_) 
          · go_simp
            obtain ⟨N11_2, wK2, hN, hw, hSK2, b11_2, lN11_2, hx⟩ := pkA hSK1
            rw [hw, hN]
            refine hK.out _ _ (fun _ => hSK2) ?_
            clear hK K hw hN hx
            refine wpZ_one (i := 17) (by kernel_rfl) rfl (fun K hK => ?_)
            go_simp
            obtain ⟨N12_3, wK3, hN, hw, hSK3, b12_3, lN12_3, hx⟩ := pkA hSK2
            rw [hw, hN]
            refine hK.out _ _ (fun _ => hSK3) ?_
            have b11_3 := b11_2.belowAll hx
            have neN11_2_N12_3 : N11_2 ≠ N12_3 := by have := b11_2.lt; omega
            clear hK K hw hN hx
            refine wpZ_one (i := 18) (by kernel_rfl) rfl (fun K hK => ?_)
            have cS := b11_3.cell; have fS := b11_3.frozen
            go_simp
            obtain ⟨wK4, hw, hSK4, b11_4, hx⟩ := pkS b11_3 (hSK3) lN11_2 x
            rw [hw]
            refine hK.out _ _ (fun _ => hSK4) ?_
            have b12_4 := hx b12_3 (by omega)
            clear hK K cS fS hw hx
            refine wpZ_one (i := 19) (by kernel_rfl) rfl (fun K hK => ?_)
            have cS := b12_4.cell; have fS := b12_4.frozen
            go_simp
            obtain ⟨wK5, hw, hSK5, b12_5, hx⟩ := pkS b12_4 (hSK4) lN12_3 m
            rw [hw]
            refine hK.out _ _ (fun _ => hSK5) ?_
            have b11_5 := hx b11_4 (by omega)
            clear hK K cS fS hw hx
            refine wpZ_done (by kernel_rfl) ?_ _
            go_wp2_with fail
            go_meet
            exact ⟨N11_2, N12_3, rfl, rfl, by omega, lN11_2, lN12_3, hSK5, b11_5, b12_5⟩
          · go_simp
            obtain ⟨N12_2, wK2, hN, hw, hSK2, b12_2, lN12_2, hx⟩ := pkA hSK1
            rw [hw, hN]
            refine hK.out _ _ (fun _ => hSK2) ?_
            clear hK K hw hN hx
            refine wpZ_one (i := 16) (by kernel_rfl) rfl (fun K hK => ?_)
            go_simp
            obtain ⟨N11_3, wK3, hN, hw, hSK3, b11_3, lN11_3, hx⟩ := pkA hSK2
            rw [hw, hN]
            refine hK.out _ _ (fun _ => hSK3) ?_
            have b12_3 := b12_2.belowAll hx
            have neN12_2_N11_3 : N12_2 ≠ N11_3 := by have := b12_2.lt; omega
            clear hK K hw hN hx
            refine wpZ_one (i := 18) (by kernel_rfl) rfl (fun K hK => ?_)
            have cS := b11_3.cell; have fS := b11_3.frozen
            go_simp
            obtain ⟨wK4, hw, hSK4, b11_4, hx⟩ := pkS b11_3 (hSK3) lN11_3 x
            rw [hw]
            refine hK.out _ _ (fun _ => hSK4) ?_
            have b12_4 := hx b12_3 (by omega)
            clear hK K cS fS hw hx
            refine wpZ_one (i := 19) (by kernel_rfl) rfl (fun K hK => ?_)
            have cS := b12_4.cell; have fS := b12_4.frozen
            go_simp
            obtain ⟨wK5, hw, hSK5, b12_5, hx⟩ := pkS b12_4 (hSK4) lN12_2 m
            rw [hw]
            refine hK.out _ _ (fun _ => hSK5) ?_
            have b11_5 := hx b11_4 (by omega)
            clear hK K cS fS hw hx
            refine wpZ_done (by kernel_rfl) ?_ _
            go_wp2_with fail
            go_meet
            exact ⟨N11_3, N12_2, rfl, rfl, by omega, lN11_3, lN12_2, hSK5, b11_5, b12_5⟩
        · go_simp
          obtain ⟨N11_1, wK1, hN, hw, hSK1, b11_1, lN11_1, hx⟩ := pkD wr
          rw [hw, hN]
          refine hK.out _ _ (fun _ => hSK1) ?_
          clear hK K hw hN hx
          refine wpZ_two (i := 15) (j := 17) (by kernel_rfl) rfl rfl (fun K hK => ?_) (fun K hK => ?_) 
          · go_simp
            refine (HMU.out wK1 (HGR.out.below (hSK1))).mono ?_
            rintro e wK2 ⟨rfl, hbK2⟩
            have hSK2 : Below wr.heap.size wr wK2 := bStep (hSK1) hbK2
            go_wp2_with fail
            refine hK.out _ _ (fun _ => hSK2) ?_
            clear hK K
            have b11_2 := b11_1.belowAll hbK2
            refine wpZ_one (i := 17) (by kernel_rfl) rfl (fun K hK => ?_)
            go_simp
            obtain ⟨N12_3, wK3, hN, hw, hSK3, b12_3, lN12_3, hx⟩ := pkA hSK2
            rw [hw, hN]
            refine hK.out _ _ (fun _ => hSK3) ?_
            have b11_3 := b11_2.belowAll hx
            have neN11_1_N12_3 : N11_1 ≠ N12_3 := by have := b11_2.lt; omega
            clear hK K hw hN hx
            refine wpZ_one (i := 18) (by kernel_rfl) rfl (fun K hK => ?_)
            have cS := b11_3.cell; have fS := b11_3.frozen
            go_simp
            obtain ⟨wK4, hw, hSK4, b11_4, hx⟩ := pkS b11_3 (hSK3) lN11_1 x
            rw [hw]
            refine hK.out _ _ (fun _ => hSK4) ?_
            have b12_4 := hx b12_3 (by omega)
            clear hK K cS fS hw hx
            refine wpZ_one (i := 19) (by kernel_rfl) rfl (fun K hK => ?_)
            have cS := b12_4.cell; have fS := b12_4.frozen
            go_simp
            obtain ⟨wK5, hw, hSK5, b12_5, hx⟩ := pkS b12_4 (hSK4) lN12_3 m
            rw [hw]
            refine hK.out _ _ (fun _ => hSK5) ?_
            have b11_5 := hx b11_4 (by omega)
            clear hK K cS fS hw hx
            refine wpZ_done (by kernel_rfl) ?_ _
            go_wp2_with fail
            go_meet
            exact ⟨N11_1, N12_3, rfl, rfl, by omega, lN11_1, lN12_3, hSK5, b11_5, b12_5⟩
          · go_simp
            obtain ⟨N12_2, wK2, hN, hw, hSK2, b12_2, lN12_2, hx⟩ := pkA hSK1
            rw [hw, hN]
            refine hK.out _ _ (fun _ => hSK2) ?_
            have b11_2 := b11_1.belowAll hx
            have neN11_1_N12_2 : N11_1 ≠ N12_2 := by have := b11_1.lt; omega
            clear hK K hw hN hx
            refine wpZ_one (i := 15) (by kernel_rfl) rfl (fun K hK => ?_)
            go_simp
            refine (HMU.out wK2 (HGR.out.below (hSK2))).mono ?_
            rintro e wK3 ⟨rfl, hbK3⟩
            have hSK3 : Below wr.heap.size wr wK3 := bStep (hSK2) hbK3
            go_wp2_with fail
            refine hK.out _ _ (fun _ => hSK3) ?_
            clear hK K
            have b11_3 := b11_2.belowAll hbK3
            have b12_3 := b12_2.belowAll hbK3
            refine wpZ_one (i := 18) (by kernel_rfl) rfl (fun K hK => ?_)
            have cS := b11_3.cell; have fS := b11_3.frozen
            go_simp
            obtain ⟨wK4, hw, hSK4, b11_4, hx⟩ := pkS b11_3 (hSK3) lN11_1 x
            rw [hw]
            refine hK.out _ _ (fun _ => hSK4) ?_
            have b12_4 := hx b12_3 (by omega)
            clear hK K cS fS hw hx
            refine wpZ_one (i := 19) (by kernel_rfl) rfl (fun K hK => ?_)
            have cS := b12_4.cell; have fS := b12_4.frozen
            go_simp
            obtain ⟨wK5, hw, hSK5, b12_5, hx⟩ := pkS b12_4 (hSK4) lN12_2 m
            rw [hw]
            refine hK.out _ _ (fun _ => hSK5) ?_
            have b11_5 := hx b11_4 (by omega)
            clear hK K cS fS hw hx
            refine wpZ_done (by kernel_rfl) ?_ _
            go_wp2_with fail
            go_meet
            exact ⟨N11_1, N12_2, rfl, rfl, by omega, lN11_1, lN12_2, hSK5, b11_5, b12_5⟩
        · go_simp
          obtain ⟨N12_1, wK1, hN, hw, hSK1, b12_1, lN12_1, hx⟩ := pkD wr
          rw [hw, hN]
          refine hK.out _ _ (fun _ => hSK1) ?_
          clear hK K hw hN hx
          refine wpZ_two (i := 15) (j := 16) (by kernel_rfl) rfl rfl (fun K hK => ?_) (fun K hK => ?_) 
          · go_simp
            refine (HMU.out wK1 (HGR.out.below (hSK1))).mono ?_
            rintro e wK2 ⟨rfl, hbK2⟩
            have hSK2 : Below wr.heap.size wr wK2 := bStep (hSK1) hbK2
            go_wp2_with fail
            refine hK.out _ _ (fun _ => hSK2) ?_
            clear hK K
            have b12_2 := b12_1.belowAll hbK2
            refine wpZ_one (i := 16) (by kernel_rfl) rfl (fun K hK => ?_)
            go_simp
            obtain ⟨N11_3, wK3, hN, hw, hSK3, b11_3, lN11_3, hx⟩ := pkA hSK2
            rw [hw, hN]
            refine hK.out _ _ (fun _ => hSK3) ?_
            have b12_3 := b12_2.belowAll hx
            have neN12_1_N11_3 : N12_1 ≠ N11_3 := by have := b12_2.lt; omega
            clear hK K hw hN hx
            refine wpZ_one (i := 18) (by kernel_rfl) rfl (fun K hK => ?_)
            have cS := b11_3.cell; have fS := b11_3.frozen
            go_simp
            obtain ⟨wK4, hw, hSK4, b11_4, hx⟩ := pkS b11_3 (hSK3) lN11_3 x
            rw [hw]
            refine hK.out _ _ (fun _ => hSK4) ?_
            have b12_4 := hx b12_3 (by omega)
            clear hK K cS fS hw hx
            refine wpZ_one (i := 19) (by kernel_rfl) rfl (fun K hK => ?_)
            have cS := b12_4.cell; have fS := b12_4.frozen
            go_simp
            obtain ⟨wK5, hw, hSK5, b12_5, hx⟩ := pkS b12_4 (hSK4) lN12_1 m
            rw [hw]
            refine hK.out _ _ (fun _ => hSK5) ?_
            have b11_5 := hx b11_4 (by omega)
            clear hK K cS fS hw hx
            refine wpZ_done (by kernel_rfl) ?_ _
            go_wp2_with fail
            go_meet
            exact ⟨N11_3, N12_1, rfl, rfl, by omega, lN11_3, lN12_1, hSK5, b11_5, b12_5⟩
          · go_simp
            obtain ⟨N11_2, wK2, hN, hw, hSK2, b11_2, lN11_2, hx⟩ := pkA hSK1
            rw [hw, hN]
            refine hK.out _ _ (fun _ => hSK2) ?_
            have b12_2 := b12_1.belowAll hx
            have neN12_1_N11_2 : N12_1 ≠ N11_2 := by have := b12_1.lt; omega
            clear hK K hw hN hx
            refine wpZ_one (i := 15) (by kernel_rfl) rfl (fun K hK => ?_)
            go_simp
            refine (HMU.out wK2 (HGR.out.below (hSK2))).mono ?_
            rintro e wK3 ⟨rfl, hbK3⟩
            have hSK3 : Below wr.heap.size wr wK3 := bStep (hSK2) hbK3
            go_wp2_with fail
            refine hK.out _ _ (fun _ => hSK3) ?_
            clear hK K
            have b12_3 := b12_2.belowAll hbK3
            have b11_3 := b11_2.belowAll hbK3
            refine wpZ_one (i := 18) (by kernel_rfl) rfl (fun K hK => ?_)
            have cS := b11_3.cell; have fS := b11_3.frozen
            go_simp
            obtain ⟨wK4, hw, hSK4, b11_4, hx⟩ := pkS b11_3 (hSK3) lN11_2 x
            rw [hw]
            refine hK.out _ _ (fun _ => hSK4) ?_
            have b12_4 := hx b12_3 (by omega)
            clear hK K cS fS hw hx
            refine wpZ_one (i := 19) (by kernel_rfl) rfl (fun K hK => ?_)
            have cS := b12_4.cell; have fS := b12_4.frozen
            go_simp
            obtain ⟨wK5, hw, hSK5, b12_5, hx⟩ := pkS b12_4 (hSK4) lN12_1 m
            rw [hw]
            refine hK.out _ _ (fun _ => hSK5) ?_
            have b11_5 := hx b11_4 (by omega)
            clear hK K cS fS hw hx
            refine wpZ_done (by kernel_rfl) ?_ _
            go_wp2_with fail
            go_meet
            exact ⟨N11_2, N12_1, rfl, rfl, by omega, lN11_2, lN12_1, hSK5, b11_5, b12_5⟩
      case rest =>
        obtain ⟨A1, A2, rfl, rfl, nAA, lA1, lA2, hbc, hA1, hA2⟩ := hcut
        have lbw := bo.lt
        have nA1 : A1 ≠ b := by omega
        have nA2 : A2 ≠ b := by omega
        have boc := bo.belowAll hbc
        have HGC : Hid (Glob wc) := HGR.out.below hbc
        clear HCX HCY HCP HMU HGR
        go_upto_region 4 with fail
        refine wp_region_Z (fun w' => Blk w' 24 A1 (fun i => limb i x) ∧ Blk w' 24 A2 (fun i => limb i m)) 99 (by kernel_rfl) ?_
        obtain ⟨wD, hD⟩ : ∃ x : World, x = wc.drew := ⟨_, rfl⟩
        rw [← hD]
        have hp0_0 : Blk wD 24 A1 (fun i => limb i x) := by rw [hD]; exact hA1.drew
        have hp1_0 : Blk wD 24 A2 (fun i => limb i m) := by rw [hD]; exact hA2.drew
        have hlow0 : Below wc.heap.size wc wD := by rw [hD]; exact (Below.refl _ _).drew
        clear hD
        refine wpZ_take (i := 0) (v := .slice (some ⟨b, oe, none⟩) h ce) 34 rfl rfl (by kernel_rfl) (by kernel_rfl) (by kernel_rfl) (Or.inr (by decide)) (fun _ _ _ h => h) (Or.inl ⟨by rfl, fun w hSw => by go_simp⟩) ⟨hp0_0, hp1_0⟩ ?_
        simp only [Act.put, List.setIfInBounds_toArray]
        dsimp only [List.set_cons_zero, List.set_cons_succ]
        refine wpZ_take (i := 1) (v := .int .i64 (j : Int)) 35 rfl rfl (by kernel_rfl) (by kernel_rfl) (by kernel_rfl) (Or.inr (by decide)) (fun _ _ _ h => h) (Or.inl ⟨by rfl, fun w hSw => by go_simp⟩) ⟨hp0_0, hp1_0⟩ ?_
        simp only [Act.put, List.setIfInBounds_toArray]
        dsimp only [List.set_cons_zero, List.set_cons_succ]
        refine wpZ_take (i := 2) (v := .slice (some ⟨b, oo, none⟩) h co) 36 rfl rfl (by kernel_rfl) (by kernel_rfl) (by kernel_rfl) (Or.inr (by decide)) (fun _ _ _ h => h) (Or.inl ⟨by rfl, fun w hSw => by go_simp⟩) ⟨hp0_0, hp1_0⟩ ?_
        simp only [Act.put, List.setIfInBounds_toArray]
        dsimp only [List.set_cons_zero, List.set_cons_succ]
        refine wpZ_take (i := 3) (v := .int .i64 (j : Int)) 37 rfl rfl (by kernel_rfl) (by kernel_rfl) (by kernel_rfl) (Or.inr (by decide)) (fun _ _ _ h => h) (Or.inl ⟨by rfl, fun w hSw => by go_simp⟩) ⟨hp0_0, hp1_0⟩ ?_
        simp only [Act.put, List.setIfInBounds_toArray]
        dsimp only [List.set_cons_zero, List.set_cons_succ]
        refine wpZ_take (i := 4) (v := .int .i64 (s : Int)) 38 rfl rfl (by kernel_rfl) (by kernel_rfl) (by kernel_rfl) (Or.inr (by decide)) (fun _ _ _ h => h) (Or.inl ⟨by rfl, fun w hSw => by go_simp⟩) ⟨hp0_0, hp1_0⟩ ?_
        simp only [Act.put, List.setIfInBounds_toArray]
        dsimp only [List.set_cons_zero, List.set_cons_succ]
        refine wpZ_take (i := 5) (v := .agg #[.int .u64 ((limb 0 (x) : Nat) : Int), .int .u64 ((limb 1 (x) : Nat) : Int), .int .u64 ((limb 2 (x) : Nat) : Int), .int .u64 ((limb 3 (x) : Nat) : Int)]) 39 rfl rfl (by kernel_rfl) (by kernel_rfl) (by kernel_rfl) (Or.inr (by decide)) (fun _ _ _ h => h) (Or.inl ⟨by rfl, fun w hSw => by (have qq := (hSw.1).cell; clear hSw; go_simp)⟩) ⟨hp0_0, hp1_0⟩ ?_
        simp only [Act.put, List.setIfInBounds_toArray]
        dsimp only [List.set_cons_zero, List.set_cons_succ]
        refine wpZ_take (i := 6) (v := .agg #[.int .u64 ((limb 0 (m) : Nat) : Int), .int .u64 ((limb 1 (m) : Nat) : Int), .int .u64 ((limb 2 (m) : Nat) : Int), .int .u64 ((limb 3 (m) : Nat) : Int)]) 40 rfl rfl (by kernel_rfl) (by kernel_rfl) (by kernel_rfl) (Or.inr (by decide)) (fun _ _ _ h => h) (Or.inl ⟨by rfl, fun w hSw => by (have qq := (hSw.2).cell; clear hSw; go_simp)⟩) ⟨hp0_0, hp1_0⟩ ?_
        simp only [Act.put, List.setIfInBounds_toArray]
        dsimp only [List.set_cons_zero, List.set_cons_succ]
        refine wpZ_take (i := 8) (v := .int .i64 (s : Int)) 42 rfl rfl (by kernel_rfl) (by kernel_rfl) (by kernel_rfl) (Or.inr (by decide)) (fun _ _ _ h => h) (Or.inl ⟨by rfl, fun w hSw => by go_simp⟩) ⟨hp0_0, hp1_0⟩ ?_
        simp only [Act.put, List.setIfInBounds_toArray]
        dsimp only [List.set_cons_zero, List.set_cons_succ]
        refine wpZ_take (i := 9) (v := .agg #[.int .u64 ((limb 0 (x) : Nat) : Int), .int .u64 ((limb 1 (x) : Nat) : Int), .int .u64 ((limb 2 (x) : Nat) : Int), .int .u64 ((limb 3 (x) : Nat) : Int)]) 43 rfl rfl (by kernel_rfl) (by kernel_rfl) (by kernel_rfl) (Or.inr (by decide)) (fun _ _ _ h => h) (Or.inl ⟨by rfl, fun w hSw => by (have qq := (hSw.1).cell; clear hSw; go_simp)⟩) ⟨hp0_0, hp1_0⟩ ?_
        simp only [Act.put, List.setIfInBounds_toArray]
        dsimp only [List.set_cons_zero, List.set_cons_succ]
        refine wpZ_take (i := 10) (v := .agg #[.int .u64 ((limb 0 (m) : Nat) : Int), .int .u64 ((limb 1 (m) : Nat) : Int), .int .u64 ((limb 2 (m) : Nat) : Int), .int .u64 ((limb 3 (m) : Nat) : Int)]) 44 rfl rfl (by kernel_rfl) (by kernel_rfl) (by kernel_rfl) (Or.inr (by decide)) (fun _ _ _ h => h) (Or.inl ⟨by rfl, fun w hSw => by (have qq := (hSw.2).cell; clear hSw; go_simp)⟩) ⟨hp0_0, hp1_0⟩ ?_
        simp only [Act.put, List.setIfInBounds_toArray]
        dsimp only [List.set_cons_zero, List.set_cons_succ]
        refine wpZ_one (i := 7) (by kernel_rfl) rfl (fun K hK => ?_)
        go_simp
        refine (HAD.out wD (HGC.out.below hlow0)).mono ?_
        rintro e wK1 ⟨rfl, hbK1⟩
        have hlow1 := bStep hlow0 hbK1
        have hp0_1 := (hp0_0).belowAll hbK1
        have hp1_1 := (hp1_0).belowAll hbK1
        go_wp2_with fail
        refine hK.out _ _ (fun _ => ⟨hp0_1, hp1_1⟩) ?_
        clear hK K
        refine wpZ_one (i := 11) (by kernel_rfl) rfl (fun K hK => ?_)
        go_simp
        refine (HSU.out wK1 (HGC.out.below hlow1)).mono ?_
        rintro e wK2 ⟨rfl, hbK2⟩
        have hlow2 := bStep hlow1 hbK2
        have hp0_2 := (hp0_1).belowAll hbK2
        have hp1_2 := (hp1_1).belowAll hbK2
        go_wp2_with fail
        refine hK.out _ _ (fun _ => ⟨hp0_2, hp1_2⟩) ?_
        clear hK K
        refine wpZ_take (i := 12) (v := .pointer (some ⟨b, (oe + j * 4), none⟩)) 46 rfl rfl (by kernel_rfl) (by kernel_rfl) (by kernel_rfl) (Or.inr (by decide)) (fun _ _ _ h => h) (Or.inl ⟨by rfl, fun w hSw => by go_simp⟩) ⟨hp0_2, hp1_2⟩ ?_
        simp only [Act.put, List.setIfInBounds_toArray]
        dsimp only [List.set_cons_zero, List.set_cons_succ]
        refine wpZ_one (i := 13) (by kernel_rfl) rfl (fun K hK => ?_)
        have bS1 := boc.belowAll hlow2
        obtain ⟨o0, o1, o2, o3⟩ := bS1.at4 hi1 HE1.out; have fo := bS1.frozen
        go_simp
        obtain ⟨wS1, hwS, bS2, hkS1⟩ := bS1.putAt hi1 HE1.out u
        rw [hwS]
        have hp0_3 := (hp0_2).kept nA1 hkS1
        have hp1_3 := (hp1_2).kept nA2 hkS1
        refine hK.out _ _ (fun _ => ⟨hp0_3, hp1_3⟩) ?_
        clear hK K hwS o0 o1 o2 o3 fo
        refine wpZ_take (i := 14) (v := .pointer (some ⟨b, (oo + j * 4), none⟩)) 47 rfl rfl (by kernel_rfl) (by kernel_rfl) (by kernel_rfl) (Or.inr (by decide)) (fun _ _ _ h => h) (Or.inl ⟨by rfl, fun w hSw => by go_simp⟩) ⟨hp0_3, hp1_3⟩ ?_
        simp only [Act.put, List.setIfInBounds_toArray]
        dsimp only [List.set_cons_zero, List.set_cons_succ]
        refine wpZ_one (i := 15) (by kernel_rfl) rfl (fun K hK => ?_)
        obtain ⟨o0, o1, o2, o3⟩ := bS2.at4 hi2 HE2.out; have fo := bS2.frozen
        go_simp
        obtain ⟨wS2, hwS, bS3, hkS2⟩ := bS2.putAt hi2 HE2.out t
        rw [hwS]
        have hp0_4 := (hp0_3).kept nA1 hkS2
        have hp1_4 := (hp1_3).kept nA2 hkS2
        refine hK.out _ _ (fun _ => ⟨hp0_4, hp1_4⟩) ?_
        clear hK K hwS o0 o1 o2 o3 fo
        refine wpZ_done (by kernel_rfl) ?_ _
        have hkw : Kept b w wS2 := ((hkr.step hbc).step hlow2).trans (hkS1.trans hkS2)
        have bF := bS3.congr (g := jnF s P f e0 h st (j + 1)) (fun i hi => HJN.out i hi)
        clear bS1 bS2 bS3 hkS1 hkS2
        go_wp2
        go_roundw
        case measure => simp [intOf]; omega
        case rel => exact ⟨j + 1, by go_num, by omega, hkw, bF⟩
    · have hji : ¬ (j : Int) < (h : Int) := by omega
      have ej : j = h := by omega
      subst ej
      go_wp2
      refine bodyPost_end (v := .tuple #[]) (by simp [results, Tryd.results68, go_sem]) rfl ?_
      exact ⟨rfl, bo, hkr⟩
end Go.Proofs.YtfkdfngegeeciaaDoor
