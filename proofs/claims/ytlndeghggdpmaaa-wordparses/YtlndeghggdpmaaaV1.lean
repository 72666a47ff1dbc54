/- What the reference's value does. -/
import Derived.Test.YtlndeghggdpmaaaU2
import Derived.Laws.Strings
namespace Go.Proofs.Ytlndeghggdpmaaa
open Go.RowKit

/-- A byte of a text. -/
def byN (s : ByteArray) (i : Nat) : Nat := (s.get! i).toNat
theorem byN_lt (s : ByteArray) (i : Nat) : byN s i < 256 := (s.get! i).toNat_lt
theorem byN_at (s : ByteArray) (i : Nat) (h : i < s.size) : (s[i]'h).toNat = byN s i := by
  unfold byN
  rw [← get_at s i h]
  rfl
theorem index_at (s : ByteArray) (j : Nat) (h : j < s.size) (w : World) : (Instr.index 9 (.string s) (.int .i64 (j : Int))).run Try.prog w = .ok (.int .u8 ((byN s j : Nat) : Int)) w := by
  rw [run_index_string (P := Try.prog) w 9 s .i64 (j : Int) Try.underlying9]
  have h1 : 0 ≤ (j : Int) ∧ (j : Int) < (s.size : Int) := by omega
  rw [dif_pos h1]
  simp only [Int.toNat_natCast]
  rw [byN_at s j h]
/-- A rune of one byte. -/
theorem decode_low (s : ByteArray) (i : Nat) (h : i < s.size) (hc : byN s i < 128) : Utf8.decode s i = (byN s i, 1) := by
  rw [← byN_at s i h] at hc ⊢
  exact decode_ascii s i h hc
set_option maxRecDepth 100000 in
/-- A rune of more is a digit in one way alone. -/
theorem decode_wide (s : ByteArray) (i : Nat) (h : i < s.size) (hc : 128 ≤ byN s i) :
    ((i + 2 < s.size ∧ byN s i = 239 ∧ byN s (i + 1) = 188 ∧ 144 ≤ byN s (i + 2) ∧ byN s (i + 2) ≤ 153) ∧ Utf8.decode s i = (65152 + byN s (i + 2), 3)) ∨
    (¬ (i + 2 < s.size ∧ byN s i = 239 ∧ byN s (i + 1) = 188 ∧ 144 ≤ byN s (i + 2) ∧ byN s (i + 2) ≤ 153) ∧ 128 ≤ (Utf8.decode s i).1 ∧ ¬ (65296 ≤ (Utf8.decode s i).1 ∧ (Utf8.decode s i).1 ≤ 65305)) := by
  have hb : ∀ k, (s.get! (i + k)).toNat < 256 := fun k => (s.get! (i + k)).toNat_lt
  have h1 := hb 1; have h2 := hb 2; have h3 := hb 3
  have hi := (decode_high s i h (by rw [byN_at s i h]; exact hc)).1
  have e0 : byN s i = (s.get! (i + 0)).toNat := rfl
  by_cases hw : i + 2 < s.size ∧ byN s i = 239 ∧ byN s (i + 1) = 188 ∧ 144 ≤ byN s (i + 2) ∧ byN s (i + 2) ≤ 153
  · left
    refine ⟨hw, ?_⟩
    obtain ⟨w1, w2, w3, w4, w5⟩ := hw
    unfold byN at w3 w4 w5 ⊢
    rw [e0] at w2
    have hv : Utf8.valid ((65152 + (s.get! (i + 2)).toNat : Nat) : Int) = true := by
      unfold Utf8.valid
      simp
      omega
    have hn : 15 * 4096 + 60 * 64 + (s.get! (i + 2)).toNat % 64 = 65152 + (s.get! (i + 2)).toNat := by omega
    have hq : (s.get! (i + 2)).toNat / 64 = 2 := by omega
    simp only [Utf8.decode, w2, w3, hq]
    simp only [show ¬ (239 : Nat) < 128 from by decide, if_false, show (239 : Nat) / 32 = 7 from rfl, show (239 : Nat) / 16 = 14 from rfl, show (188 : Nat) / 64 = 2 from rfl, show (239 : Nat) % 16 = 15 from rfl, show (188 : Nat) % 64 = 60 from rfl, hn, hv]
    simp [w1, show i + 1 < s.size from by omega]
    omega
  · right
    refine ⟨hw, hi, ?_⟩
    rintro ⟨r1, r2⟩
    apply hw
    unfold byN at hc ⊢
    rw [show (s.get! i).toNat = (s.get! (i + 0)).toNat from rfl] at hc ⊢
    have h0 := hb 0
    clear hi e0 hw hb
    have r := And.intro r1 r2
    clear r1 r2
    unfold Utf8.decode at r
    dsimp only at r
    split at r
    · omega
    · split at r
      · split at r
        · dsimp only at r; omega
        · simp [Utf8.runeError] at r
      · split at r
        · rename_i k2
          simp only [Bool.and_eq_true, beq_iff_eq, decide_eq_true_eq] at k2
          split at r
          · dsimp only at r; omega
          · simp [Utf8.runeError] at r
        · split at r
          · split at r
            · rename_i hq2
              simp only [Bool.and_eq_true, decide_eq_true_eq] at hq2
              dsimp only at r
              omega
            · simp [Utf8.runeError] at r
          · simp [Utf8.runeError] at r

end Go.Proofs.Ytlndeghggdpmaaa
