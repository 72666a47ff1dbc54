/- What field.Inv and Neg do. -/
import Derived.Test.YtfbfenljfdnggaaGreatDoorVF12
import Derived.Test.YtfbfenljfdnggaaGreatDoorVBE
import Derived.Test.YtfbfenljfdnggaaGreatDoorVBN
import Derived.Deep.CutBlock
import Derived.Deep.DeepCutAuto
import Derived.Laws.Bits64b
namespace Go.Proofs.YtfbfenljfdnggaaGreatDoor
open Go.RowKit
theorem modN_prime (s : Nat) : IsPrime (modN s) := by
  match s with
  | 0 => exact prime0
  | 1 => exact prime1
  | 2 => exact prime2
  | _ + 3 => exact prime3
theorem modN_odd (s : Nat) : modN s % 2 = 1 ∧ 1 < modN s := by
  match s with
  | 0 => decide
  | 1 => decide
  | 2 => exact ⟨by decide, by decide⟩
  | _ + 3 => exact ⟨by show 28948022309329048855892746252171976963363056481941647379679742748393362948097 % 2 = 1; decide, by show 1 < 28948022309329048855892746252171976963363056481941647379679742748393362948097; decide⟩
theorem prime_gcd (p x : Nat) (hp : IsPrime p) (h0 : x ≠ 0) (hx : x < p) : Nat.gcd x p = 1 := by
  rw [Nat.gcd_comm]
  exact hp.coprime (fun hd => by have := Nat.le_of_dvd (by omega) hd; omega)
set_option maxHeartbeats 4000000 in
/-- field.Inv. -/
theorem fInv_any (s a : Nat) (hs : s < 4) (ha : a < 115792089237316195423570985008687907853269984665640564039457584007913129639936) (w : World) (hg : Glob w) :
    Calls Tryz.prog 129 #[.int .i64 (s : Int), .agg #[.int .u64 ((limb 0 (a) : Nat) : Int), .int .u64 ((limb 1 (a) : Nat) : Int), .int .u64 ((limb 2 (a) : Nat) : Int), .int .u64 ((limb 3 (a) : Nat) : Int)]] w fun e w' => ((a % modN s = 0 ∧ e = .returned (.tuple #[.agg #[.int .u64 0, .int .u64 0, .int .u64 0, .int .u64 0], .int .i64 10])) ∨ (a % modN s ≠ 0 ∧ ∃ q, q < modN s ∧ q * (a % modN s) % modN s = 1 ∧ e = .returned (.tuple #[.agg #[.int .u64 ((limb 0 (q) : Nat) : Int), .int .u64 ((limb 1 (q) : Nat) : Int), .int .u64 ((limb 2 (q) : Nat) : Int), .int .u64 ((limb 3 (q) : Nat) : Int)], .int .i64 0]))) ∧ Below w.heap.size w w' := by
  have hgl := (modN_good s).lt
  have hod := modN_odd s
  have hpr := modN_prime s
  have HM := fun w hg => modulus_any s hs w hg
  obtain ⟨m, em⟩ : ∃ m, m = modN s := ⟨_, rfl⟩
  rw [← em] at hgl hod hpr HM ⊢
  clear em
  obtain ⟨h0, hm2, hm⟩ := hgl
  have lx := Nat.mod_lt a h0
  have EA := fun w => element_any m a h0 hm ha w
  obtain ⟨x, ex⟩ : ∃ x, x = a % m := ⟨_, rfl⟩
  rw [← ex] at lx EA ⊢
  clear ex
  have HP := (show Hid _ from hpr)
  clear hpr
  go_enter Tryz.func129, Tryz.ntmps129
  go_wp2_with fail
  obtain ⟨w0, hw0⟩ : ∃ w0 : World, w0 = (w.alloc (.cells #[.int .u64 ((limb 0 (a) : Nat) : Int), .int .u64 ((limb 1 (a) : Nat) : Int), .int .u64 ((limb 2 (a) : Nat) : Int), .int .u64 ((limb 3 (a) : Nat) : Int)] 25)).alloc (.cells #[.int .u64 0, .int .u64 0, .int .u64 0, .int .u64 0] 25) := ⟨_, rfl⟩
  have ba0 : Blk w0 25 w.heap.size (fun i => limb i a) := by rw [hw0]; exact (Blk.newAt _ _ _ (fun i => limb i a) (by simp)).alloc _
  have br0 : Blk w0 25 (w.heap.size + 1) (fun _ => 0) := by rw [hw0]; exact Blk.newAt _ _ _ (fun _ => 0) (by simp)
  have hg0 : Glob w0 := by rw [hw0]; exact (hg.alloc _).alloc _
  have hb0 : Below w.heap.size w w0 := by
    rw [hw0]
    repeat (first | with_reducible exact Below.refl _ _ | with_reducible refine Below.alloc ?_ (by first | omega | (simp; omega) | simp) _)
  rw [← hw0]
  clear hw0 hg
  refine (HM _ hg0).mono ?_
  rintro e w1 ⟨rfl, hb1⟩
  have ba1 := ba0.belowAll hb1; have br1 := br0.belowAll hb1; have hg1 := hg0.below hb1
  have hbw1 := bStep hb0 hb1
  clear ba0 br0 hb0 hb1 hg0 HM
  have ca := ba1.cell; have la := ba1.lt
  obtain ⟨hA, hG⟩ := acell (w := w1) (n := w1.heap.size) (Nat.le_refl _)
  go_wp2_with fail
  refine (EA _).mono ?_
  rintro e w2 ⟨rfl, hb2⟩
  have br2 := (br1.alloc _).belowAll hb2; have hg2 := (hg1.alloc _).below hb2
  have bm2 : Blk w2 154 w1.heap.size (fun i => limb i m) := (Blk.new w1 _ (fun i => limb i m)).belowAll hb2
  have hbw2 := bStep (bAlloc hbw1 _) hb2
  have hne : w.heap.size + 1 ≠ w1.heap.size := by have := br1.lt; omega
  clear ba1 br1 hbw1 hb2 hg1 EA ca la hA hG
  have hq0 := fun w => eqlS0 x (by omega) w
  have cr := br2.cell; have fr := br2.frozen; have lr := br2.lt; have lm := bm2.lt
  obtain ⟨hA, hG⟩ := acell (w := w2) (n := w2.heap.size) (Nat.le_refl _)
  by_cases hx0 : x = 0
  · rw [show decide (x = 0) = true from by simp [hx0]] at hq0
    go_wp2
    refine bodyPost_ret (v := .tuple #[.agg #[.int .u64 0, .int .u64 0, .int .u64 0, .int .u64 0], .int .i64 10]) (by simp [results, Tryz.results129, go_sem, cr, cell_old, lr]) rfl ⟨Or.inl ⟨hx0, rfl⟩, ?_⟩
    have hz2 := hbw2.size
    repeat (first | with_reducible exact hbw2 | with_reducible refine Below.setCell ?_ (by first | omega | (simp; omega) | simp) _ | with_reducible refine Below.alloc ?_ (by first | omega | (simp; omega) | simp) _)
  · rw [show decide (x = 0) = false from by simp [hx0]] at hq0
    have cm := bm2.cell
    have hgcd := prime_gcd m x HP.out hx0 lx
    have HX := (show Hid _ from hx0)
    clear hx0
    go_wp2_with fail
    refine (inverse_any m x hm2 hod.2 hod.1 lx hgcd _ (hg2.alloc _)).mono ?_
    rintro e w3 ⟨q, lq, hq, rfl, hb3⟩
    have br3 := (br2.alloc _).belowAll hb3
    have hbw3 := bStep (bAlloc hbw2 _) hb3
    have HQ := (show Hid _ from hq)
    clear br2 bm2 hbw2 hb3 hg2 cr fr lr lm cm hA hG hq0 hq hgcd
    go_wp2_with fail
    refine (toElem_any q _).mono ?_
    rintro e w4 ⟨rfl, hb4⟩
    have br4 := br3.belowAll hb4
    have hbw4 := bStep hbw3 hb4
    have cr := br4.cell; have fr := br4.frozen; have lr := br4.lt
    clear br3 hbw3 hb4
    go_wp2
    refine bodyPost_ret (v := .tuple #[.agg #[.int .u64 ((limb 0 (q) : Nat) : Int), .int .u64 ((limb 1 (q) : Nat) : Int), .int .u64 ((limb 2 (q) : Nat) : Int), .int .u64 ((limb 3 (q) : Nat) : Int)], .int .i64 0]) (by simp [results, Tryz.results129, go_sem, cr]) rfl ⟨Or.inr ⟨HX.out, q, lq, HQ.out, rfl⟩, ?_⟩
    repeat (first | with_reducible exact hbw4 | with_reducible refine Below.setCell ?_ (by first | omega | (simp; omega) | simp) _)
end Go.Proofs.YtfbfenljfdnggaaGreatDoor
/- The laws of a field, as plain arithmetic; the statements' own first look (alive) of layer 2. -/
namespace Go.Proofs.YtfbfenljfdnggaaGreatDoor
open Go.RowKit
theorem modN_lt (s : Nat) : modN s < 115792089237316195423570985008687907853269984665640564039457584007913129639936 := (modN_good s).lt.2.2
theorem word_agg (n : Nat) (hn : n < 18446744073709551616) : (.agg #[.int .u64 ((limb 0 (n) : Nat) : Int), .int .u64 ((limb 1 (n) : Nat) : Int), .int .u64 ((limb 2 (n) : Nat) : Int), .int .u64 ((limb 3 (n) : Nat) : Int)] : Value) = .agg #[.int .u64 (n : Int), .int .u64 0, .int .u64 0, .int .u64 0] := by
  rw [limb_small n 0 hn, limb_small n 1 hn, limb_small n 2 hn, limb_small n 3 hn, if_pos rfl, if_neg (by decide), if_neg (by decide), if_neg (by decide)]
  rfl
end Go.Proofs.YtfbfenljfdnggaaGreatDoor
/- FieldLaws: the walk: for every sort, a, b and c the call returns true, where the package's variables read as the text lays them. -/
namespace Go.Proofs.YtfbfenljfdnggaaGreatDoor
open Go.RowKit
theorem fAdd_zero (s b : Nat) (hs : s < 4) (hb : b < 115792089237316195423570985008687907853269984665640564039457584007913129639936) (w : World) (hg : Glob w) :
    Calls Tryz.prog 49 #[.int .i64 (s : Int), .agg #[.int .u64 ((limb 0 (b) : Nat) : Int), .int .u64 ((limb 1 (b) : Nat) : Int), .int .u64 ((limb 2 (b) : Nat) : Int), .int .u64 ((limb 3 (b) : Nat) : Int)], .agg #[.int .u64 0, .int .u64 0, .int .u64 0, .int .u64 0]] w fun e w' => e = .returned (.agg #[.int .u64 ((limb 0 (addP s b 0) : Nat) : Int), .int .u64 ((limb 1 (addP s b 0) : Nat) : Int), .int .u64 ((limb 2 (addP s b 0) : Nat) : Int), .int .u64 ((limb 3 (addP s b 0) : Nat) : Int)]) ∧ Below w.heap.size w w' := by
  have h := fAdd_any s b 0 hs hb (by decide) w hg
  rw [limbz, limbz, limbz, limbz] at h
  exact h
theorem Glob.drew {w : World} (h : Glob w) : Glob w.drew := h
end Go.Proofs.YtfbfenljfdnggaaGreatDoor
/- Powers by squares and bits; word.Bit, field.bitLength. -/
namespace Go.Proofs.YtfbfenljfdnggaaGreatDoor
open Go.RowKit
/-- a to the power k by m. -/
def powM (m a k : Nat) : Nat := a ^ k % m
theorem powM_lt (m a k : Nat) (h : 0 < m) : powM m a k < m := Nat.mod_lt _ h
theorem powM_zero (m a : Nat) (h : 1 < m) : powM m a 0 = 1 := by unfold powM; rw [Nat.pow_zero, Nat.mod_eq_of_lt h]
theorem powM_two (m a k : Nat) : powM m a k * powM m a k % m = powM m a (2 * k) := by
  unfold powM; rw [← Nat.mul_mod, ← Nat.pow_add]; congr 2; omega
theorem powM_more (m a k : Nat) : powM m a k * a % m = powM m a (k + 1) := by
  unfold powM; rw [Nat.mod_mul_mod, Nat.pow_succ]
theorem powM_base (m a k : Nat) : powM m (a % m) k = powM m a k := by unfold powM; rw [← Nat.pow_mod]
theorem bit_halves (e k : Nat) : e / 2 ^ k = 2 * (e / 2 ^ (k + 1)) + bitN e k := by
  unfold bitN; rw [Nat.pow_succ, ← Nat.div_div_eq_div_mul]; omega
theorem bitN_01 (e k : Nat) : bitN e k = 0 ∨ bitN e k = 1 := by unfold bitN; omega
theorem powM_bit1 (m a e k : Nat) (h : bitN e k = 1) : powM m a (2 * (e / 2 ^ (k + 1))) * a % m = powM m a (e / 2 ^ k) := by
  rw [powM_more, bit_halves e k, h]
theorem powM_bit0 (m a e k : Nat) (h : bitN e k = 0) : powM m a (2 * (e / 2 ^ (k + 1))) = powM m a (e / 2 ^ k) := by
  have e1 := bit_halves e k
  rw [h, Nat.add_zero] at e1
  rw [e1]
theorem bit_limb (A k m : Nat) (hm : m < 64) : limb k A / 2 ^ m % 2 = bitN A (64 * k + m) := by
  have h := limb_test k A m
  rw [Nat.testBit_eq_decide_div_mod_eq, bitN_test] at h
  simp only [hm, decide_true, Bool.true_and, decide_eq_decide] at h
  have h1 := bitN_01 A (64 * k + m)
  omega
theorem bit_at (A i : Nat) : limb (i / 64) A / 2 ^ (i % 64) % 2 = bitN A i := by
  have h := bit_limb A (i / 64) (i % 64) (Nat.mod_lt _ (by decide))
  rw [show 64 * (i / 64) + i % 64 = i from by omega] at h
  exact h
set_option maxHeartbeats 1000000 in
theorem bit_walk (A q r b : Nat) (i : Int) (h0 : 0 ≤ i) (h1 : i < 256) (hq : i / 64 = (q : Int)) (hr : i % 64 = (r : Int)) (q4 : q < 4) (_r6 : r < 64) (hb : bits BinOp.and IntKind.u64 (((limb q A : Nat) : Int) / 2 ^ r) 1 = (b : Int)) (w : World) :
    Calls Tryz.prog 161 #[.agg #[.int .u64 ((limb 0 (A) : Nat) : Int), .int .u64 ((limb 1 (A) : Nat) : Int), .int .u64 ((limb 2 (A) : Nat) : Int), .int .u64 ((limb 3 (A) : Nat) : Int)], .int .i64 i] w fun e w' => e = .returned (.bool ((b : Int) == 1)) ∧ Below w.heap.size w w' := by
  have hn : ¬ i < 0 := by omega
  have hn2 : ¬ 256 ≤ i := by omega
  obtain ⟨x, ex⟩ : ∃ x : Int, x = ((limb q A : Nat) : Int) := ⟨_, rfl⟩
  rw [← ex] at hb
  go_enter Tryz.func161, Tryz.ntmps161
  go_upto_region 1 with fail
  obtain ⟨w0, hw0⟩ : ∃ w0 : World, w0 = w.alloc (.cells #[.int .u64 ((limb 0 (A) : Nat) : Int), .int .u64 ((limb 1 (A) : Nat) : Int), .int .u64 ((limb 2 (A) : Nat) : Int), .int .u64 ((limb 3 (A) : Nat) : Int)] 25) := ⟨_, rfl⟩
  have ba0 : Blk w0 25 w.heap.size (fun i => limb i A) := by rw [hw0]; exact Blk.newAt _ _ _ (fun i => limb i A) (by simp)
  have hb0 : Below w.heap.size w w0 := by rw [hw0]; exact (Below.refl _ _).alloc (Nat.le_refl _) _
  rw [← hw0]
  have ca := ba0.cell q q4
  rw [← ex] at ca
  clear hw0 ba0 ex
  go_wp2
  go_ret
  exact ⟨rfl, hb0⟩
theorem and_one (x r : Nat) (hx : x < 18446744073709551616) : bits BinOp.and IntKind.u64 ((x : Int) / 2 ^ r) 1 = ((x / 2 ^ r % 2 : Nat) : Int) := by
  have h1 : (x : Int) / 2 ^ r = ((x / 2 ^ r : Nat) : Int) := by simp
  have h2 : x / 2 ^ r < 18446744073709551616 := Nat.lt_of_le_of_lt (Nat.div_le_self _ _) hx
  have h := bits_and_u64_nat (x / 2 ^ r) 1 h2 (by decide)
  rw [h1]
  rw [Nat.and_one_is_mod] at h
  exact h
/-- word.Bit of a bit that there is. -/
theorem bit_any (A : Nat) (i : Int) (h0 : 0 ≤ i) (h1 : i < 256) (w : World) :
    Calls Tryz.prog 161 #[.agg #[.int .u64 ((limb 0 (A) : Nat) : Int), .int .u64 ((limb 1 (A) : Nat) : Int), .int .u64 ((limb 2 (A) : Nat) : Int), .int .u64 ((limb 3 (A) : Nat) : Int)], .int .i64 i] w fun e w' => e = .returned (.bool (decide (bitN A i.toNat = 1))) ∧ Below w.heap.size w w' := by
  obtain ⟨n, rfl⟩ := Int.eq_ofNat_of_zero_le h0
  have h := bit_walk A (n / 64) (n % 64) (limb (n / 64) A / 2 ^ (n % 64) % 2) n h0 h1 (by omega) (by omega) (by omega) (by omega) (and_one _ _ (limb_lt _ _)) w
  rw [bit_at A n] at h
  refine h.mono ?_
  rintro e w' ⟨rfl, hb⟩
  refine ⟨congrArg (fun b => Ending.returned (.bool b)) ?_, hb⟩
  rw [Int.toNat_natCast, Bool.eq_iff_iff]
  simp
  omega
end Go.Proofs.YtfbfenljfdnggaaGreatDoor
/- What field.bitLength and field.power do. -/
namespace Go.Proofs.YtfbfenljfdnggaaGreatDoor
open Go.RowKit
theorem bitLen_under : ∀ x : Nat, x < 2 ^ 64 → x < 2 ^ Lib.bitLen x := by
  intro x
  induction x using Nat.strongRecOn with
  | _ x ih =>
    intro hx
    by_cases h0 : x = 0
    · subst h0; exact Nat.two_pow_pos _
    · rw [Lib.bitLen_half x h0 hx, Nat.add_comm, Nat.pow_succ]
      have h := ih (x / 2) (by omega) (by omega)
      omega
theorem bitLen_top2 (x : Nat) (hx : x < 18446744073709551616) : x < 2 ^ Lib.bitLen x ∧ Lib.bitLen x ≤ 64 := by
  refine ⟨?_, Lib.bitLen_le x 64 (by decide) (by simpa using hx)⟩
  exact bitLen_under x (by simpa using hx)
/-- How many bits a number has, as field.bitLength reckons it. -/
def lenN (A : Nat) : Nat := if limb 3 A ≠ 0 then 192 + Lib.bitLen (limb 3 A) else if limb 2 A ≠ 0 then 128 + Lib.bitLen (limb 2 A) else if limb 1 A ≠ 0 then 64 + Lib.bitLen (limb 1 A) else Lib.bitLen (limb 0 A)
set_option maxHeartbeats 2000000 in
theorem bitLength_any (A : Nat) (w : World) :
    Calls Tryz.prog 160 #[.agg #[.int .u64 ((limb 0 (A) : Nat) : Int), .int .u64 ((limb 1 (A) : Nat) : Int), .int .u64 ((limb 2 (A) : Nat) : Int), .int .u64 ((limb 3 (A) : Nat) : Int)]] w fun e w' => e = .returned (.int .i64 ((lenN A : Nat) : Int)) ∧ Below w.heap.size w w' := by
  have L := fun (k : Nat) w => len64_int ((limb k A : Nat) : Int) (by omega) (by have := limb_lt k A; omega) w
  have b0 := (bitLen_top2 _ (limb_lt 0 A)).2; have b1 := (bitLen_top2 _ (limb_lt 1 A)).2; have b2 := (bitLen_top2 _ (limb_lt 2 A)).2; have b3 := (bitLen_top2 _ (limb_lt 3 A)).2
  have L0 := L 0; have L1 := L 1; have L2 := L 2; have L3 := L 3
  simp only [Int.toNat_natCast] at L0 L1 L2 L3
  have HV : Hid (lenN A = if limb 3 A ≠ 0 then 192 + Lib.bitLen (limb 3 A) else if limb 2 A ≠ 0 then 128 + Lib.bitLen (limb 2 A) else if limb 1 A ≠ 0 then 64 + Lib.bitLen (limb 1 A) else Lib.bitLen (limb 0 A)) := rfl
  clear L
  obtain ⟨v, ev⟩ : ∃ v, v = lenN A := ⟨_, rfl⟩
  rw [← ev] at HV ⊢
  clear ev
  generalize Lib.bitLen (limb 0 A) = l0 at *
  generalize Lib.bitLen (limb 1 A) = l1 at *
  generalize Lib.bitLen (limb 2 A) = l2 at *
  generalize Lib.bitLen (limb 3 A) = l3 at *
  generalize limb 0 A = a0 at *
  generalize limb 1 A = a1 at *
  generalize limb 2 A = a2 at *
  generalize limb 3 A = a3 at *
  by_cases h3 : a3 = 0
  · by_cases h2 : a2 = 0
    · by_cases h1 : a1 = 0
      · have n3 : ((a3 : Int) != 0) = false := by simp [h3]
        have n2 : ((a2 : Int) != 0) = false := by simp [h2]
        have n1 : ((a1 : Int) != 0) = false := by simp [h1]
        have HE : Hid (v = l0) := by show _ = _; rw [HV.out]; simp [h1, h2, h3]
        clear HV h1 h2 h3
        go_enter Tryz.func160, Tryz.ntmps160
        go_wp2_with fail
        refine (L0 _).mono ?_
        rintro e w1 ⟨rfl, rfl⟩
        go_wp2
        go_ret
        exact ⟨by rw [HE.out]; rfl, (Below.refl _ _).alloc (Nat.le_refl _) _⟩
      · have n3 : ((a3 : Int) != 0) = false := by simp [h3]
        have n2 : ((a2 : Int) != 0) = false := by simp [h2]
        have n1 : ((a1 : Int) != 0) = true := by simp [h1]
        have HE : Hid (v = 64 + l1) := by show _ = _; rw [HV.out]; simp [h1, h2, h3]
        clear HV h1 h2 h3
        go_enter Tryz.func160, Tryz.ntmps160
        go_wp2_with fail
        refine (L1 _).mono ?_
        rintro e w1 ⟨rfl, rfl⟩
        go_wp2
        go_ret
        exact ⟨by rw [HE.out]; simp, (Below.refl _ _).alloc (Nat.le_refl _) _⟩
    · have n3 : ((a3 : Int) != 0) = false := by simp [h3]
      have n2 : ((a2 : Int) != 0) = true := by simp [h2]
      have HE : Hid (v = 128 + l2) := by show _ = _; rw [HV.out]; simp [h2, h3]
      clear HV h2 h3
      go_enter Tryz.func160, Tryz.ntmps160
      go_wp2_with fail
      refine (L2 _).mono ?_
      rintro e w1 ⟨rfl, rfl⟩
      go_wp2
      go_ret
      exact ⟨by rw [HE.out]; simp, (Below.refl _ _).alloc (Nat.le_refl _) _⟩
  · have n3 : ((a3 : Int) != 0) = true := by simp [h3]
    have HE : Hid (v = 192 + l3) := by show _ = _; rw [HV.out]; simp [h3]
    clear HV h3
    go_enter Tryz.func160, Tryz.ntmps160
    go_wp2_with fail
    refine (L3 _).mono ?_
    rintro e w1 ⟨rfl, rfl⟩
    go_wp2
    go_ret
    exact ⟨by rw [HE.out]; simp, (Below.refl _ _).alloc (Nat.le_refl _) _⟩
theorem lenN_top (A : Nat) (hA : A < 115792089237316195423570985008687907853269984665640564039457584007913129639936) : A < 2 ^ lenN A ∧ lenN A ≤ 256 := by
  have hs := limbs_sum A hA
  have l0 := bitLen_top2 _ (limb_lt 0 A); have l1 := bitLen_top2 _ (limb_lt 1 A); have l2 := bitLen_top2 _ (limb_lt 2 A); have l3 := bitLen_top2 _ (limb_lt 3 A)
  have g0 := limb_lt 0 A; have g1 := limb_lt 1 A; have g2 := limb_lt 2 A
  unfold lenN
  generalize limb 0 A = a0 at *
  generalize limb 1 A = a1 at *
  generalize limb 2 A = a2 at *
  generalize limb 3 A = a3 at *
  generalize Lib.bitLen a0 = b0 at *
  generalize Lib.bitLen a1 = b1 at *
  generalize Lib.bitLen a2 = b2 at *
  generalize Lib.bitLen a3 = b3 at *
  by_cases h3 : a3 = 0
  · by_cases h2 : a2 = 0
    · by_cases h1 : a1 = 0
      · simp only [h1, h2, h3, ne_eq, not_true_eq_false, if_false]
        refine ⟨?_, by omega⟩
        have := l0.1
        omega
      · simp only [h1, h2, h3, ne_eq, not_true_eq_false, not_false_eq_true, if_true, if_false]
        refine ⟨?_, by omega⟩
        rw [Nat.pow_add]
        have := l1.1
        generalize 2 ^ b1 = p at *
        have e : (2 : Nat) ^ 64 = 18446744073709551616 := by decide
        rw [e]
        omega
    · simp only [h2, h3, ne_eq, not_true_eq_false, not_false_eq_true, if_true, if_false]
      refine ⟨?_, by omega⟩
      rw [Nat.pow_add]
      have := l2.1
      generalize 2 ^ b2 = p at *
      have e : (2 : Nat) ^ 128 = 340282366920938463463374607431768211456 := by decide
      rw [e]
      omega
  · simp only [h3, ne_eq, not_false_eq_true, if_true]
    refine ⟨?_, by omega⟩
    rw [Nat.pow_add]
    have := l3.1
    generalize 2 ^ b3 = p at *
    have e : (2 : Nat) ^ 192 = 6277101735386680763835789423207666416102355444464034512896 := by decide
    rw [e]
    omega
end Go.Proofs.YtfbfenljfdnggaaGreatDoor
/- What field.power and field.Exp do. -/
namespace Go.Proofs.YtfbfenljfdnggaaGreatDoor
open Go.RowKit
theorem out_sq (m x e L k : Nat) (hk : k < L) : powM m x (e / 2 ^ (L - k)) * powM m x (e / 2 ^ (L - k)) % m = powM m x (2 * (e / 2 ^ (L - 1 - k + 1))) := by
  rw [show L - 1 - k + 1 = L - k from by omega, powM_two]
theorem out_next1 (m x e L k : Nat) (hk : k < L) (h : bitN e (L - 1 - k) = 1) : powM m x (2 * (e / 2 ^ (L - 1 - k + 1))) * x % m = powM m x (e / 2 ^ (L - (k + 1))) := by
  rw [powM_bit1 m x e (L - 1 - k) h, show L - 1 - k = L - (k + 1) from by omega]
theorem out_next0 (m x e L k : Nat) (hk : k < L) (h : ¬ bitN e (L - 1 - k) = 1) : powM m x (2 * (e / 2 ^ (L - 1 - k + 1))) = powM m x (e / 2 ^ (L - (k + 1))) := by
  have := bitN_01 e (L - 1 - k)
  rw [powM_bit0 m x e (L - 1 - k) (by omega), show L - 1 - k = L - (k + 1) from by omega]
set_option maxHeartbeats 8000000 in
set_option maxRecDepth 20000 in
/-- field.power. -/
theorem power_any (m x e : Nat) (hG : GoodMod m) (h1 : 1 < m) (hx : x < m) (he : e < 115792089237316195423570985008687907853269984665640564039457584007913129639936) (w : World) (hg : Glob w) :
    Calls Tryz.prog 128 #[.agg #[.int .u64 ((limb 0 (m) : Nat) : Int), .int .u64 ((limb 1 (m) : Nat) : Int), .int .u64 ((limb 2 (m) : Nat) : Int), .int .u64 ((limb 3 (m) : Nat) : Int)], .agg #[.int .u64 ((limb 0 (x) : Nat) : Int), .int .u64 ((limb 1 (x) : Nat) : Int), .int .u64 ((limb 2 (x) : Nat) : Int), .int .u64 ((limb 3 (x) : Nat) : Int)], .agg #[.int .u64 ((limb 0 (e) : Nat) : Int), .int .u64 ((limb 1 (e) : Nat) : Int), .int .u64 ((limb 2 (e) : Nat) : Int), .int .u64 ((limb 3 (e) : Nat) : Int)]] w fun r w' => r = .returned (.agg #[.int .u64 ((limb 0 (powM m x e) : Nat) : Int), .int .u64 ((limb 1 (powM m x e) : Nat) : Int), .int .u64 ((limb 2 (powM m x e) : Nat) : Int), .int .u64 ((limb 3 (powM m x e) : Nat) : Int)]) ∧ Below w.heap.size w w' := by
  have hgl := hG.lt
  have lt := lenN_top e he
  have LL := fun w => bitLength_any e w
  have PP := fun a b (ha : a < m) (hb : b < m) w => product_any m a b hG ha hb w
  have TE := fun w => toElem_any e w
  have c1 := hg.2.2
  have lg := hg.1
  obtain ⟨L, eL⟩ : ∃ L, L = lenN e := ⟨_, rfl⟩
  rw [← eL] at lt LL
  have HT : Hid (e < 2 ^ L) := lt.1
  have hL := lt.2
  clear eL lt hG hg
  go_enter Tryz.func128, Tryz.ntmps128
  go_upto_region 1 with fail
  obtain ⟨w0, hw0⟩ : ∃ w0 : World, w0 = (((w.alloc (.cells #[.int .u64 ((limb 0 (m) : Nat) : Int), .int .u64 ((limb 1 (m) : Nat) : Int), .int .u64 ((limb 2 (m) : Nat) : Int), .int .u64 ((limb 3 (m) : Nat) : Int)] 154)).alloc (.cells #[.int .u64 ((limb 0 (x) : Nat) : Int), .int .u64 ((limb 1 (x) : Nat) : Int), .int .u64 ((limb 2 (x) : Nat) : Int), .int .u64 ((limb 3 (x) : Nat) : Int)] 154)).alloc (.cells #[.int .u64 ((limb 0 (e) : Nat) : Int), .int .u64 ((limb 1 (e) : Nat) : Int), .int .u64 ((limb 2 (e) : Nat) : Int), .int .u64 ((limb 3 (e) : Nat) : Int)] 154)).alloc (.cells #[.int .u64 0, .int .u64 0, .int .u64 0, .int .u64 0] 154) := ⟨_, rfl⟩
  have bm0 : Blk w0 154 w.heap.size (fun i => limb i m) := by rw [hw0]; exact (((Blk.newAt _ _ _ (fun i => limb i m) (by simp)).alloc _).alloc _).alloc _
  have bx0 : Blk w0 154 (w.heap.size + 1) (fun i => limb i x) := by rw [hw0]; exact ((Blk.newAt _ _ _ (fun i => limb i x) (by simp)).alloc _).alloc _
  have be0 : Blk w0 154 (w.heap.size + 1 + 1) (fun i => limb i e) := by rw [hw0]; exact (Blk.newAt _ _ _ (fun i => limb i e) (by simp)).alloc _
  have br0 : Blk w0 154 (w.heap.size + 1 + 1 + 1) (fun _ => 0) := by rw [hw0]; exact Blk.newAt _ _ _ (fun _ => 0) (by simp)
  have hz0 : w0.heap.size = w.heap.size + 1 + 1 + 1 + 1 := by rw [hw0]; simp
  have hb0 : Below w.heap.size w w0 := by
    rw [hw0]
    repeat (first | with_reducible exact Below.refl _ _ | with_reducible refine Below.alloc ?_ (by first | omega | (simp; omega) | simp) _)
  have co : ∀ i, i < 4 → w0.cell? ⟨2, i, none⟩ = some (.int .u64 ((limb i 1 : Nat) : Int)) := fun i hi => by rw [hb0.cell (p := ⟨2, i, none⟩) (show 2 < w.heap.size by omega)]; exact c1 i hi
  rw [← hw0]
  clear hw0 c1
  have ce := be0.cell; have le := be0.lt
  obtain ⟨hA, hGl⟩ := acell (w := w0) (n := w0.heap.size) (Nat.le_refl _)
  go_wp2_with fail
  refine (LL _).mono ?_
  rintro r w1 ⟨rfl, hb1⟩
  have bm1 := (bm0.alloc _).belowAll hb1; have bx1 := (bx0.alloc _).belowAll hb1; have be1 := (be0.alloc _).belowAll hb1; have br1 := (br0.alloc _).belowAll hb1
  have bo1 : Blk w1 154 (w.heap.size + 1 + 1 + 1 + 1) (fun i => limb i 1) := by rw [← hz0]; exact (Blk.new w0 _ (fun i => limb i 1)).belowAll hb1
  have hbw1 := bStep (bAlloc hb0 _) hb1
  clear bm0 bx0 be0 br0 hb0 hb1 co ce le hA hGl hz0 LL
  go_wp2
  go_loopw [14] (fun i wr => ∃ k : Nat, i = .int .i64 (k : Int) ∧ k ≤ L ∧ Below w.heap.size w wr ∧ Blk wr 154 w.heap.size (fun i => limb i m) ∧ Blk wr 154 (w.heap.size + 1) (fun i => limb i x) ∧ Blk wr 154 (w.heap.size + 1 + 1) (fun i => limb i e) ∧ Blk wr 154 (w.heap.size + 1 + 1 + 1) (fun _ => 0) ∧ Blk wr 154 (w.heap.size + 1 + 1 + 1 + 1) (fun i => limb i (powM m x (e / 2 ^ (L - k))))) (fun i _ => L - (intOf i).toNat)
  case atStart =>
    refine ⟨0, rfl, by omega, hbw1, bm1, bx1, be1, br1, ?_⟩
    rw [Nat.sub_zero, Nat.div_eq_of_lt HT.out, powM_zero m x h1]
    exact bo1
  case round =>
    obtain ⟨k, rfl, hk, hbr, bm, bx, be, br, bo⟩ := hrel
    clear bm1 bx1 be1 br1 bo1 hbw1
    by_cases hlt : k < L
    · have hki : (k : Int) < (L : Int) := by omega
      have HS := (show Hid _ from out_sq m x e L k hlt)
      have lo := powM_lt m x (e / 2 ^ (L - k)) (by omega)
      have lq := powM_lt m x (2 * (e / 2 ^ (L - 1 - k + 1))) (by omega)
      have P1 := fun w => PP _ _ lo lo w
      rw [HS.out] at P1
      have BT := fun w => bit_any e ((L : Int) - 1 - (k : Int)) (by omega) (by omega) w
      rw [show ((L : Int) - 1 - (k : Int)).toNat = L - 1 - k from by omega] at BT
      by_cases hbit : bitN e (L - 1 - k) = 1
      · have P2 := fun w => PP _ _ lq hx w
        have HN := (show Hid _ from out_next1 m x e L k hlt hbit)
        rw [HN.out] at P2
        rw [show decide (bitN e (L - 1 - k) = 1) = true from by simp [hbit]] at BT
        obtain ⟨o, eo⟩ : ∃ o, o = powM m x (e / 2 ^ (L - k)) := ⟨_, rfl⟩
        obtain ⟨q, eq⟩ : ∃ q, q = powM m x (2 * (e / 2 ^ (L - 1 - k + 1))) := ⟨_, rfl⟩
        obtain ⟨n, en⟩ : ∃ n, n = powM m x (e / 2 ^ (L - (k + 1))) := ⟨_, rfl⟩
        rw [← eo] at bo P1
        rw [← eq] at P1 P2
        rw [← en] at P2
        have EN := (show Hid _ from en)
        clear eo eq en HS HN lo lq hbit PP
        have cm := bm.cell; have co := bo.cell
        go_wp2_with fail
        refine (P1 _).mono ?_
        rintro r w2 ⟨rfl, hb2⟩
        have bm2 := bm.belowAll hb2; have bx2 := bx.belowAll hb2; have be2 := be.belowAll hb2; have br2 := br.belowAll hb2; have bo2 := bo.belowAll hb2
        have hbw2 := bStep hbr hb2
        clear bm bx be br bo hbr hb2 cm co P1
        have co := bo2.cell; have fo := bo2.frozen
        go_upto_region 7 with fail
        obtain ⟨w3, hw3⟩ : ∃ w3 : World, w3 = (((w2.setCell ⟨w.heap.size + 1 + 1 + 1 + 1, 0, none⟩ (.int .u64 ((limb 0 q : Nat) : Int))).setCell ⟨w.heap.size + 1 + 1 + 1 + 1, 1, none⟩ (.int .u64 ((limb 1 q : Nat) : Int))).setCell ⟨w.heap.size + 1 + 1 + 1 + 1, 2, none⟩ (.int .u64 ((limb 2 q : Nat) : Int))).setCell ⟨w.heap.size + 1 + 1 + 1 + 1, 3, none⟩ (.int .u64 ((limb 3 q : Nat) : Int)) := ⟨_, rfl⟩
        have bm3 : Blk w3 154 w.heap.size (fun i => limb i m) := by rw [hw3]; exact bm2.other4 (by omega) _ _ _ _
        have bx3 : Blk w3 154 (w.heap.size + 1) (fun i => limb i x) := by rw [hw3]; exact bx2.other4 (by omega) _ _ _ _
        have be3 : Blk w3 154 (w.heap.size + 1 + 1) (fun i => limb i e) := by rw [hw3]; exact be2.other4 (by omega) _ _ _ _
        have br3 : Blk w3 154 (w.heap.size + 1 + 1 + 1) (fun _ => 0) := by rw [hw3]; exact br2.other4 (by omega) _ _ _ _
        have bo3 : Blk w3 154 (w.heap.size + 1 + 1 + 1 + 1) (fun i => limb i q) := by rw [hw3]; exact bo2.set4 (fun i => limb i q)
        have hbw3 : Below w.heap.size w w3 := by rw [hw3]; exact bSet4 hbw2 (by omega) _ _ _ _
        rw [← hw3]
        clear hw3 bm2 bx2 be2 br2 bo2 hbw2 co fo
        have ce := be3.cell
        go_wp2_with fail
        refine (TE _).mono ?_
        rintro r w4 ⟨rfl, hb4⟩
        have bm4 := bm3.belowAll hb4; have bx4 := bx3.belowAll hb4; have be4 := be3.belowAll hb4; have br4 := br3.belowAll hb4; have bo4 := bo3.belowAll hb4
        have hbw4 := bStep hbw3 hb4
        clear bm3 bx3 be3 br3 bo3 hbw3 hb4 ce TE
        go_wp2_with fail
        refine (BT _).mono ?_
        rintro r w5 ⟨rfl, hb5⟩
        have bm5 := bm4.belowAll hb5; have bx5 := bx4.belowAll hb5; have be5 := be4.belowAll hb5; have br5 := br4.belowAll hb5; have bo5 := bo4.belowAll hb5
        have hbw5 := bStep hbw4 hb5
        clear bm4 bx4 be4 br4 bo4 hbw4 hb5 BT
        have cm := bm5.cell; have cx := bx5.cell; have co := bo5.cell
        go_wp2_with fail
        refine (P2 _).mono ?_
        rintro r w6 ⟨rfl, hb6⟩
        have bm6 := bm5.belowAll hb6; have bx6 := bx5.belowAll hb6; have be6 := be5.belowAll hb6; have br6 := br5.belowAll hb6; have bo6 := bo5.belowAll hb6
        have hbw6 := bStep hbw5 hb6
        clear bm5 bx5 be5 br5 bo5 hbw5 hb6 P2 cm cx co
        have co := bo6.cell; have fo := bo6.frozen
        go_wp2
        go_roundw
        case measure => simp [intOf]; omega
        case rel =>
          refine ⟨k + 1, by go_num, by omega, bSet4 hbw6 (by omega) _ _ _ _, bm6.other4 (by omega) _ _ _ _, bx6.other4 (by omega) _ _ _ _, be6.other4 (by omega) _ _ _ _, br6.other4 (by omega) _ _ _ _, ?_⟩
          rw [← EN.out]
          exact bo6.set4 (fun i => limb i n)
      · have HN := (show Hid _ from out_next0 m x e L k hlt hbit)
        rw [HN.out] at P1
        rw [show decide (bitN e (L - 1 - k) = 1) = false from by simp [hbit]] at BT
        obtain ⟨o, eo⟩ : ∃ o, o = powM m x (e / 2 ^ (L - k)) := ⟨_, rfl⟩
        obtain ⟨n, en⟩ : ∃ n, n = powM m x (e / 2 ^ (L - (k + 1))) := ⟨_, rfl⟩
        rw [← eo] at bo P1
        rw [← en] at P1
        have EN := (show Hid _ from en)
        clear eo en HS HN lo lq hbit PP
        have cm := bm.cell; have co := bo.cell
        go_wp2_with fail
        refine (P1 _).mono ?_
        rintro r w2 ⟨rfl, hb2⟩
        have bm2 := bm.belowAll hb2; have bx2 := bx.belowAll hb2; have be2 := be.belowAll hb2; have br2 := br.belowAll hb2; have bo2 := bo.belowAll hb2
        have hbw2 := bStep hbr hb2
        clear bm bx be br bo hbr hb2 cm co P1
        have co := bo2.cell; have fo := bo2.frozen
        go_upto_region 7 with fail
        obtain ⟨w3, hw3⟩ : ∃ w3 : World, w3 = (((w2.setCell ⟨w.heap.size + 1 + 1 + 1 + 1, 0, none⟩ (.int .u64 ((limb 0 n : Nat) : Int))).setCell ⟨w.heap.size + 1 + 1 + 1 + 1, 1, none⟩ (.int .u64 ((limb 1 n : Nat) : Int))).setCell ⟨w.heap.size + 1 + 1 + 1 + 1, 2, none⟩ (.int .u64 ((limb 2 n : Nat) : Int))).setCell ⟨w.heap.size + 1 + 1 + 1 + 1, 3, none⟩ (.int .u64 ((limb 3 n : Nat) : Int)) := ⟨_, rfl⟩
        have bm3 : Blk w3 154 w.heap.size (fun i => limb i m) := by rw [hw3]; exact bm2.other4 (by omega) _ _ _ _
        have bx3 : Blk w3 154 (w.heap.size + 1) (fun i => limb i x) := by rw [hw3]; exact bx2.other4 (by omega) _ _ _ _
        have be3 : Blk w3 154 (w.heap.size + 1 + 1) (fun i => limb i e) := by rw [hw3]; exact be2.other4 (by omega) _ _ _ _
        have br3 : Blk w3 154 (w.heap.size + 1 + 1 + 1) (fun _ => 0) := by rw [hw3]; exact br2.other4 (by omega) _ _ _ _
        have bo3 : Blk w3 154 (w.heap.size + 1 + 1 + 1 + 1) (fun i => limb i n) := by rw [hw3]; exact bo2.set4 (fun i => limb i n)
        have hbw3 : Below w.heap.size w w3 := by rw [hw3]; exact bSet4 hbw2 (by omega) _ _ _ _
        rw [← hw3]
        clear hw3 bm2 bx2 be2 br2 bo2 hbw2 co fo
        have ce := be3.cell
        go_wp2_with fail
        refine (TE _).mono ?_
        rintro r w4 ⟨rfl, hb4⟩
        have bm4 := bm3.belowAll hb4; have bx4 := bx3.belowAll hb4; have be4 := be3.belowAll hb4; have br4 := br3.belowAll hb4; have bo4 := bo3.belowAll hb4
        have hbw4 := bStep hbw3 hb4
        clear bm3 bx3 be3 br3 bo3 hbw3 hb4 ce TE
        go_wp2_with fail
        refine (BT _).mono ?_
        rintro r w5 ⟨rfl, hb5⟩
        have bm5 := bm4.belowAll hb5; have bx5 := bx4.belowAll hb5; have be5 := be4.belowAll hb5; have br5 := br4.belowAll hb5; have bo5 := bo4.belowAll hb5
        have hbw5 := bStep hbw4 hb5
        clear bm4 bx4 be4 br4 bo4 hbw4 hb5 BT
        go_wp2
        go_roundw
        case measure => simp [intOf]; omega
        case rel =>
          refine ⟨k + 1, by go_num, by omega, hbw5, bm5, bx5, be5, br5, ?_⟩
          rw [← EN.out]
          exact bo5
    · have hkL : k = L := by omega
      subst hkL
      rw [Nat.sub_self, Nat.pow_zero, Nat.div_one] at bo
      clear hlt PP TE
      obtain ⟨o, eo⟩ : ∃ o, o = powM m x e := ⟨_, rfl⟩
      rw [← eo] at bo
      have EO := (show Hid _ from eo)
      clear eo
      have co := bo.cell; have cr := br.cell; have fr := br.frozen
      go_wp2
      refine bodyPost_ret (v := .agg #[.int .u64 ((limb 0 (o) : Nat) : Int), .int .u64 ((limb 1 (o) : Nat) : Int), .int .u64 ((limb 2 (o) : Nat) : Int), .int .u64 ((limb 3 (o) : Nat) : Int)]) (by simp [results, Tryz.results128, go_sem, cr]) rfl ⟨by rw [EO.out], ?_⟩
      repeat (first | with_reducible exact hbr | with_reducible refine Below.setCell ?_ (by first | omega | (simp; omega) | simp) _)
/-- a to the power e, in the field of a sort. -/
def expP (s a e : Nat) : Nat := powM (modN s) a e
theorem expP_lt (s a e : Nat) : expP s a e < modN s := powM_lt _ _ _ (modN_pos s)
set_option maxHeartbeats 4000000 in
set_option maxRecDepth 20000 in
/-- field.Exp. -/
theorem fExp_any (s a b : Nat) (hs : s < 4) (ha : a < 115792089237316195423570985008687907853269984665640564039457584007913129639936) (hb : b < 115792089237316195423570985008687907853269984665640564039457584007913129639936) (w : World) (hg : Glob w) :
    Calls Tryz.prog 96 #[.int .i64 (s : Int), .agg #[.int .u64 ((limb 0 (a) : Nat) : Int), .int .u64 ((limb 1 (a) : Nat) : Int), .int .u64 ((limb 2 (a) : Nat) : Int), .int .u64 ((limb 3 (a) : Nat) : Int)], .agg #[.int .u64 ((limb 0 (b) : Nat) : Int), .int .u64 ((limb 1 (b) : Nat) : Int), .int .u64 ((limb 2 (b) : Nat) : Int), .int .u64 ((limb 3 (b) : Nat) : Int)]] w fun e w' => e = .returned (.agg #[.int .u64 ((limb 0 (expP s a b) : Nat) : Int), .int .u64 ((limb 1 (expP s a b) : Nat) : Int), .int .u64 ((limb 2 (expP s a b) : Nat) : Int), .int .u64 ((limb 3 (expP s a b) : Nat) : Int)]) ∧ Below w.heap.size w w' := by
  have hG := modN_good s
  have hgl := hG.lt
  have hod := (modN_odd s).2
  have HM := fun w hg => modulus_any s hs w hg
  have EX : Hid (powM (modN s) (a % modN s) b = expP s a b) := powM_base _ _ _
  obtain ⟨m, em⟩ : ∃ m, m = modN s := ⟨_, rfl⟩
  rw [← em] at hG hgl hod HM EX
  clear em
  have lx := Nat.mod_lt a hgl.1
  have EA := fun w => element_any m a hgl.1 hgl.2.2 ha w
  obtain ⟨x, ex⟩ : ∃ x, x = a % m := ⟨_, rfl⟩
  rw [← ex] at lx EA EX
  clear ex
  have NB := fun w => numberOf_any b w
  have PW := fun w hg => power_any m x b hG hod lx hb w hg
  obtain ⟨r, er⟩ : ∃ r, r = powM m x b := ⟨_, rfl⟩
  rw [← er] at PW EX
  have TE := fun w => toElem_any r w
  clear er hG hgl hod lx
  go_enter Tryz.func96, Tryz.ntmps96
  go_wp2_with fail
  obtain ⟨w0, hw0⟩ : ∃ w0 : World, w0 = ((w.alloc (.cells #[.int .u64 ((limb 0 (a) : Nat) : Int), .int .u64 ((limb 1 (a) : Nat) : Int), .int .u64 ((limb 2 (a) : Nat) : Int), .int .u64 ((limb 3 (a) : Nat) : Int)] 25)).alloc (.cells #[.int .u64 ((limb 0 (b) : Nat) : Int), .int .u64 ((limb 1 (b) : Nat) : Int), .int .u64 ((limb 2 (b) : Nat) : Int), .int .u64 ((limb 3 (b) : Nat) : Int)] 25)).alloc (.cells #[.int .u64 0, .int .u64 0, .int .u64 0, .int .u64 0] 25) := ⟨_, rfl⟩
  have ba0 : Blk w0 25 w.heap.size (fun i => limb i a) := by rw [hw0]; exact ((Blk.newAt _ _ _ (fun i => limb i a) (by simp)).alloc _).alloc _
  have bb0 : Blk w0 25 (w.heap.size + 1) (fun i => limb i b) := by rw [hw0]; exact (Blk.newAt _ _ _ (fun i => limb i b) (by simp)).alloc _
  have br0 : Blk w0 25 (w.heap.size + 1 + 1) (fun _ => 0) := by rw [hw0]; exact Blk.newAt _ _ _ (fun _ => 0) (by simp)
  have hg0 : Glob w0 := by rw [hw0]; exact ((hg.alloc _).alloc _).alloc _
  have hb0 : Below w.heap.size w w0 := by
    rw [hw0]
    repeat (first | with_reducible exact Below.refl _ _ | with_reducible refine Below.alloc ?_ (by first | omega | (simp; omega) | simp) _)
  rw [← hw0]
  clear hw0 hg
  refine (HM _ hg0).mono ?_
  rintro e w1 ⟨rfl, hb1⟩
  have ba1 := ba0.belowAll hb1; have bb1 := bb0.belowAll hb1; have br1 := br0.belowAll hb1; have hg1 := hg0.below hb1
  have hbw1 := bStep hb0 hb1
  clear ba0 bb0 br0 hb0 hb1 hg0 HM
  go_wp2_with fail
  obtain ⟨w2, hw2⟩ : ∃ w2 : World, w2 = w1.alloc (.cells #[.int .u64 ((limb 0 (m) : Nat) : Int), .int .u64 ((limb 1 (m) : Nat) : Int), .int .u64 ((limb 2 (m) : Nat) : Int), .int .u64 ((limb 3 (m) : Nat) : Int)] 154) := ⟨_, rfl⟩
  have ba2 : Blk w2 25 w.heap.size (fun i => limb i a) := by rw [hw2]; exact ba1.alloc _
  have bb2 : Blk w2 25 (w.heap.size + 1) (fun i => limb i b) := by rw [hw2]; exact bb1.alloc _
  have br2 : Blk w2 25 (w.heap.size + 1 + 1) (fun _ => 0) := by rw [hw2]; exact br1.alloc _
  have bm2 : Blk w2 154 w1.heap.size (fun i => limb i m) := by rw [hw2]; exact Blk.new w1 _ (fun i => limb i m)
  have hg2 : Glob w2 := by rw [hw2]; exact hg1.alloc _
  have hbw2 : Below w.heap.size w w2 := by rw [hw2]; exact bAlloc hbw1 _
  have hne : w.heap.size + 1 + 1 ≠ w1.heap.size := by have := br1.lt; omega
  rw [← hw2]
  clear hw2 ba1 bb1 br1 hg1 hbw1
  have hg2d := hg2.drew
  go_region_held3 (fun w' => (∀ i, i < 4 → w'.cell? ⟨w.heap.size, i, none⟩ = some (.int .u64 ((limb i a : Nat) : Int))) ∧ (∀ i, i < 4 → w'.cell? ⟨(w.heap.size + 1), i, none⟩ = some (.int .u64 ((limb i b : Nat) : Int))) ∧ (∀ i, i < 4 → w'.cell? ⟨w1.heap.size, i, none⟩ = some (.int .u64 ((limb i m : Nat) : Int))))
    (first | with_reducible exact far3 _ _ _ _ (by omega) (by omega) hne (by with_reducible assumption) | with_reducible exact hold3 hb6 (by with_reducible assumption) | with_reducible exact hold3 hb5 (by with_reducible assumption) | with_reducible exact hold3 hb4 (by with_reducible assumption) | with_reducible exact hold3 hb3 (by with_reducible assumption) | with_reducible exact ⟨ba2.drew.cell, bb2.drew.cell, bm2.drew.cell⟩)
    (first | (go_at_call 89; with_reducible refine (EA _).mono ?_; rintro e w3 ⟨rfl, hb3⟩; have hg3 := hg2d.below hb3) | (go_at_call 124; with_reducible refine (NB _).mono ?_; rintro e w4 ⟨rfl, hb4⟩; have hg4 := hg3.below hb4) | (go_at_call 128; with_reducible refine (PW _ hg4).mono ?_; rintro e w5 ⟨rfl, hb5⟩) | (go_at_call 84; with_reducible refine (TE _).mono ?_; rintro e w6 ⟨rfl, hb6⟩; have br6 := (((br2.drew.belowAll hb3).belowAll hb4).belowAll hb5).belowAll hb6; have cr := br6.cell; have fr := br6.frozen) | fail)
  all_goals
    have hbw6 := bStep (bStep (bStep (bStep hbw2.drew hb3) hb4) hb5) hb6
    have lr6 := br6.lt
    go_wp2
    refine bodyPost_ret (v := .agg #[.int .u64 ((limb 0 (r) : Nat) : Int), .int .u64 ((limb 1 (r) : Nat) : Int), .int .u64 ((limb 2 (r) : Nat) : Int), .int .u64 ((limb 3 (r) : Nat) : Int)]) (by simp [results, Tryz.results96, go_sem, cr]) rfl ⟨by rw [EX.out], ?_⟩
    repeat (first | with_reducible exact hbw6 | with_reducible refine Below.setCell ?_ (by first | omega | (simp; omega) | simp) _)
end Go.Proofs.YtfbfenljfdnggaaGreatDoor
