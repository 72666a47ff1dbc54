/- What the reference's Sum needs. -/
import Derived.Test.YtolaofoffakddaaDoorX3T
import Derived.Test.YtolaofoffakddaaDoorX3F
import Derived.Test.YtolaofoffakddaaDoorB13
import Derived.Test.YtolaofoffakddaaDoorZ1
import Derived.Lib.ConvBytes
namespace Go.Proofs.YtolaofoffakddaaDoor
open Go.RowKit Go.Lib

theorem rblock_any (h : Nat → Nat) (oa : Option Addr) (n c t : Nat) (f : Nat → Nat) (last : Bool) (hh : ∀ i, h i < 18446744073709551616) (ht : t < 18446744073709551616) (hf : ∀ i, i < n → f i < 256) (w : World)
    (hv : ∀ i, i < n → ∃ a, oa = some a ∧ a.block < w.heap.size ∧ w.cell? (a.add i) = some (.int .u8 ((f i : Nat) : Int))) :
    Calls Tryd.prog 17 #[.agg #[.int .u64 ((h 0 : Nat) : Int), .int .u64 ((h 1 : Nat) : Int), .int .u64 ((h 2 : Nat) : Int), .int .u64 ((h 3 : Nat) : Int), .int .u64 ((h 4 : Nat) : Int), .int .u64 ((h 5 : Nat) : Int), .int .u64 ((h 6 : Nat) : Int), .int .u64 ((h 7 : Nat) : Int)], .slice oa n c, .int .u64 (t : Int), .bool last] w fun e w' => e = .returned (.agg #[.int .u64 ((comp h (wrd (padB n f)) t last 0 : Nat) : Int), .int .u64 ((comp h (wrd (padB n f)) t last 1 : Nat) : Int), .int .u64 ((comp h (wrd (padB n f)) t last 2 : Nat) : Int), .int .u64 ((comp h (wrd (padB n f)) t last 3 : Nat) : Int), .int .u64 ((comp h (wrd (padB n f)) t last 4 : Nat) : Int), .int .u64 ((comp h (wrd (padB n f)) t last 5 : Nat) : Int), .int .u64 ((comp h (wrd (padB n f)) t last 6 : Nat) : Int), .int .u64 ((comp h (wrd (padB n f)) t last 7 : Nat) : Int)]) ∧ Below w.heap.size w w' := by
  cases last with
  | true => exact rblock_true h oa n c t f hh ht hf w hv
  | false => exact rblock_false h oa n c t f hh ht hf w hv
theorem leN_pad (n : Nat) (f : Nat → Nat) : ∀ r, leN (padB n f) (n + r) = leN f n
  | 0 => leN_congr n (fun i hi => if_pos hi)
  | r + 1 => by
    show leN (padB n f) (n + r) + padB n f (n + r) * 256 ^ (n + r) = _
    rw [leN_pad n f r, show padB n f (n + r) = 0 from if_neg (by omega), Nat.zero_mul, Nat.add_zero]
theorem pad_word (n : Nat) (f : Nat → Nat) (hf : ∀ i, f i < 256) (hn : n ≤ 16) (i : Nat) (hi : i < 16) : wd (padB n f) (8 * i) = limb i (leN f n) := by
  rw [wd_wrd _ (padB_lt n f (fun i _ => hf i)) i hi]
  unfold wrd
  rw [show (128 : Nat) = n + (128 - n) from by omega, leN_pad]
theorem key_sum (L : Nat) (h : L ≤ 64) : 16842752 + L = 16842752 ^^^ L := by
  have k : ∀ L, L < 65 → 16842752 + L = 16842752 ^^^ L := by decide
  exact k L (by omega)
theorem below_bytes (w : World) (e : TypeId) (s : ByteArray) : Below w.heap.size w (bytesWorld w e s) :=
  ⟨rfl, rfl, rfl, by rw [bytesWorld_size]; omega, fun k hk => bytesWorld_at_old w e s k hk⟩
theorem bytes_pS (w : World) (e : TypeId) (s : ByteArray) (j : Nat) (hj : j < s.size) : (bytesWorld w e s).cell? ((⟨w.heap.size, 0, none⟩ : Addr).add j) = some (.int .u8 ((pS s j : Nat) : Int)) := by
  rw [show (⟨w.heap.size, 0, none⟩ : Addr).add j = ⟨w.heap.size, j, none⟩ from addr_at _ _, bytesWorld_cell w e s j hj]
  have h1 : s.data.toList.getD j 0 = s[j] := by
    rw [List.getD_eq_getElem?_getD]
    have : s.data.toList[j]? = some s[j] := by
      rw [Array.getElem?_toList]
      exact Array.getElem?_eq_getElem (by simpa using hj)
    rw [this]; rfl
  have h2 : s[j]? = some s[j] := by exact getElem?_pos s j hj
  rw [h1]
  unfold pS
  rw [h2]
/-- The reference's word of a string's bytes. -/
theorem rword_str (s : ByteArray) (i : Nat) (hs : s.size ≤ 16) (hi : i < 2) (cp : Nat) (w : World) (W : World) (hW : W = bytesWorld w 5 s) :
    Calls Tryd.prog 16 #[.slice (some ⟨w.heap.size, 0, none⟩) s.size cp, .int .i64 ((8 * i : Nat) : Int)] W fun e w' => e = .returned (.int .u64 ((limb i (leN (pS s) s.size) : Nat) : Int)) ∧ w' = W := by
  have k := rword_any (some ⟨w.heap.size, 0, none⟩) s.size cp (8 * i) (pS s) (by omega) (fun i _ => pS_lt s i) W (fun j hj => ⟨_, rfl, by rw [hW]; exact bytes_pS w _ s j hj⟩)
  rw [pad_word s.size (pS s) (pS_lt s) hs i (by omega)] at k
  exact k
theorem BlkN.cells8 {W : World} {t : TypeId} {b : Nat} {f : Nat → Nat} (h : BlkN W t b 8 f) : W.cell? ⟨b, 0, none⟩ = some (.int .u64 ((f 0 : Nat) : Int)) ∧ W.cell? ⟨b, 1, none⟩ = some (.int .u64 ((f 1 : Nat) : Int)) ∧ W.cell? ⟨b, 2, none⟩ = some (.int .u64 ((f 2 : Nat) : Int)) ∧ W.cell? ⟨b, 3, none⟩ = some (.int .u64 ((f 3 : Nat) : Int)) ∧ W.cell? ⟨b, 4, none⟩ = some (.int .u64 ((f 4 : Nat) : Int)) ∧ W.cell? ⟨b, 5, none⟩ = some (.int .u64 ((f 5 : Nat) : Int)) ∧ W.cell? ⟨b, 6, none⟩ = some (.int .u64 ((f 6 : Nat) : Int)) ∧ W.cell? ⟨b, 7, none⟩ = some (.int .u64 ((f 7 : Nat) : Int)) ∧ ∀ o, W.frozen? ⟨b, o, none⟩ = false := ⟨h.cell 0 (by decide), h.cell 1 (by decide), h.cell 2 (by decide), h.cell 3 (by decide), h.cell 4 (by decide), h.cell 5 (by decide), h.cell 6 (by decide), h.cell 7 (by decide), h.frozen⟩
theorem fin_pad (st B : Nat → Nat) (N k : Nat) (h1 : 128 * k ≤ N) (h2 : N ≤ 128 * k + 128) (h3 : k = 0 ∨ 128 * k < N) : comp (hsB st B k) (wrd (padB (N - 128 * k) (fun j => B (128 * k + j)))) N true = fin st B N := by
  have ek : (N - 1) / 128 = k := by omega
  unfold fin
  rw [ek]
  rw [wrd_congr (f := padB (N - 128 * k) (fun j => B (128 * k + j))) (g := fun j => if 128 * k + j < N then B (128 * k + j) else 0) (fun j _ => by
    unfold padB
    by_cases h : 128 * k + j < N
    · rw [if_pos h, if_pos (by omega)]
    · rw [if_neg h, if_neg (by omega)])]
theorem hs_pad (st B : Nat → Nat) (k : Nat) : comp (hsB st B k) (wrd (padB 128 (fun j => B (128 * k + j)))) (128 * k + 128) false = hsB st B (k + 1) := by
  show _ = comp (hsB st B k) (wrd (fun j => B (128 * k + j))) (128 * (k + 1)) false
  rw [wrd_congr (f := padB 128 (fun j => B (128 * k + j))) (g := fun j => B (128 * k + j)) (fun j hj => if_pos hj), show 128 * k + 128 = 128 * (k + 1) from by omega]

end Go.Proofs.YtolaofoffakddaaDoor
