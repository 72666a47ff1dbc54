/- What the reference's value does. -/
import Derived.Test.YtlndeghggdpmaaaV1
namespace Go.Proofs.Ytlndeghggdpmaaa
open Go.RowKit

set_option maxHeartbeats 4000000 in
theorem value_low (s : ByteArray) (hx : Bool) (I C D : Int) (hc : (48 ≤ C ∧ C ≤ 57 ∧ C - 48 = D) ∨ (hx = true ∧ 97 ≤ C ∧ C ≤ 102 ∧ C - 87 = D) ∨ (hx = true ∧ 65 ≤ C ∧ C ≤ 70 ∧ C - 55 = D))
    (IX : ∀ w, (Instr.index 9 (.string s) (.int .i64 I)).run Try.prog w = .ok (.int .u8 C) w) (w : World) :
    Calls Try.prog 46 #[.string s, .int .i64 I, .bool hx] w fun e w' => e = .returned (.tuple #[.int .i64 D, .int .i64 1]) ∧ w' = w := by
  rcases hc with ⟨k1, k2, k3⟩ | ⟨rfl, k1, k2, k3⟩ | ⟨rfl, k1, k2, k3⟩
  all_goals (
    go_enter Try.func46, Try.ntmps46
    go_wp2
    go_ret2
    exact ⟨rfl, rfl⟩)

set_option maxHeartbeats 4000000 in
theorem value_wide (s : ByteArray) (hx : Bool) (I C2 D : Int) (h0 : 0 ≤ I) (h1 : I ≤ 100000) (h2 : I + 2 < (s.size : Int)) (k1 : 144 ≤ C2) (k2 : C2 ≤ 153) (k3 : C2 - 144 = D)
    (IX : ∀ w, (Instr.index 9 (.string s) (.int .i64 I)).run Try.prog w = .ok (.int .u8 239) w) (IX1 : ∀ w, (Instr.index 9 (.string s) (.int .i64 (I + 1))).run Try.prog w = .ok (.int .u8 188) w) (IX2 : ∀ w, (Instr.index 9 (.string s) (.int .i64 (I + 2))).run Try.prog w = .ok (.int .u8 C2) w) (w : World) :
    Calls Try.prog 46 #[.string s, .int .i64 I, .bool hx] w fun e w' => e = .returned (.tuple #[.int .i64 D, .int .i64 3]) ∧ w' = w := by
  cases hx
  all_goals (
    go_enter Try.func46, Try.ntmps46
    go_wp2
    go_ret2
    exact ⟨rfl, rfl⟩)

set_option maxHeartbeats 8000000 in
theorem value_nolow (s : ByteArray) (hx : Bool) (I C : Int) (h0 : 0 ≤ I) (h1 : I ≤ 100000) (c0 : 0 ≤ C) (hc : C < 48 ∨ (57 < C ∧ C < 65) ∨ (65 ≤ C ∧ C ≤ 70 ∧ hx = false) ∨ (70 < C ∧ C < 97) ∨ (97 ≤ C ∧ C ≤ 102 ∧ hx = false) ∨ (102 < C ∧ C < 128))
    (IX : ∀ w, (Instr.index 9 (.string s) (.int .i64 I)).run Try.prog w = .ok (.int .u8 C) w) (w : World) :
    Calls Try.prog 46 #[.string s, .int .i64 I, .bool hx] w fun e w' => e = .returned (.tuple #[.int .i64 (-1), .int .i64 0]) ∧ w' = w := by
  have hq : (C == 239) = false := by rw [beq_eq_false_iff_ne]; omega
  by_cases h2 : I + 2 < (s.size : Int)
  all_goals cases hx
  all_goals rcases hc with hc | hc | hc | hc | hc | hc
  all_goals try (exact absurd hc.2.2 (by decide))
  all_goals (try obtain ⟨k1, k2, _⟩ := hc)
  all_goals (try obtain ⟨k1, k2⟩ := hc)
  all_goals (
    go_enter Try.func46, Try.ntmps46
    go_wp2
    go_ret2
    exact ⟨rfl, rfl⟩)

set_option maxHeartbeats 8000000 in
theorem value_nohigh (s : ByteArray) (hx : Bool) (I C C1 C2 : Int) (h0 : 0 ≤ I) (h1 : I ≤ 100000) (c0 : 128 ≤ C) (hc : ¬ I + 2 < (s.size : Int) ∨ (I + 2 < (s.size : Int) ∧ (C == 239) = false) ∨ (I + 2 < (s.size : Int) ∧ C = 239 ∧ (C1 == 188) = false) ∨ (I + 2 < (s.size : Int) ∧ C = 239 ∧ C1 = 188 ∧ C2 < 144) ∨ (I + 2 < (s.size : Int) ∧ C = 239 ∧ C1 = 188 ∧ 153 < C2))
    (IX : ∀ w, (Instr.index 9 (.string s) (.int .i64 I)).run Try.prog w = .ok (.int .u8 C) w) (IX1 : I + 2 < (s.size : Int) → ∀ w, (Instr.index 9 (.string s) (.int .i64 (I + 1))).run Try.prog w = .ok (.int .u8 C1) w) (IX2 : I + 2 < (s.size : Int) → ∀ w, (Instr.index 9 (.string s) (.int .i64 (I + 2))).run Try.prog w = .ok (.int .u8 C2) w) (w : World) :
    Calls Try.prog 46 #[.string s, .int .i64 I, .bool hx] w fun e w' => e = .returned (.tuple #[.int .i64 (-1), .int .i64 0]) ∧ w' = w := by
  rcases hc with k | ⟨k, k1⟩ | ⟨k, rfl, k1⟩ | ⟨k, rfl, rfl, k1⟩ | ⟨k, rfl, rfl, k1⟩
  · clear IX1 IX2
    cases hx
    all_goals (
      go_enter Try.func46, Try.ntmps46
      go_wp2
      go_ret2
      exact ⟨rfl, rfl⟩)
  all_goals have IY1 := IX1 k
  all_goals have IY2 := IX2 k
  all_goals clear IX1 IX2
  all_goals cases hx
  all_goals (
    go_enter Try.func46, Try.ntmps46
    go_wp2
    go_ret2
    exact ⟨rfl, rfl⟩)

theorem value_some (b : Nat) (hx : Bool) (s : ByteArray) (i d : Nat) (hb : (hx = true ∧ b = 16) ∨ (hx = false ∧ b = 10)) (hs : s.size ≤ 100000) (hi : i < s.size) (h : digV b (Utf8.decode s i).1 = some d) (w : World) :
    Calls Try.prog 46 #[.string s, .int .i64 (i : Int), .bool hx] w fun e w' => e = .returned (.tuple #[.int .i64 (d : Int), .int .i64 (((Utf8.decode s i).2 : Nat) : Int)]) ∧ w' = w := by
  by_cases hc : byN s i < 128
  · rw [decode_low s i hi hc] at h ⊢
    refine value_low s hx i ((byN s i : Nat) : Int) d ?_ (index_at s i hi) w
    dsimp only at h
    unfold digV at h
    split at h
    · left; simp at h; omega
    · split at h
      · omega
      · split at h
        · right; left
          rename_i hr
          simp at h
          rcases hb with ⟨rfl, _⟩ | ⟨_, h10⟩
          · exact ⟨rfl, by omega, by omega, by omega⟩
          · omega
        · split at h
          · right; right
            rename_i hr
            simp at h
            rcases hb with ⟨rfl, _⟩ | ⟨_, h10⟩
            · exact ⟨rfl, by omega, by omega, by omega⟩
            · omega
          · cases h
  · rcases decode_wide s i hi (by omega) with ⟨⟨w1, w2, w3, w4, w5⟩, hd⟩ | ⟨_, hr, hn⟩
    · rw [hd] at h ⊢
      have IX := index_at s i hi; have IX1 := index_at s (i + 1) (by omega); have IX2 := index_at s (i + 2) w1
      rw [w2] at IX
      rw [w3] at IX1
      refine value_wide s hx i ((byN s (i + 2) : Nat) : Int) d (by omega) (by omega) (by omega) (by omega) (by omega) ?_ IX IX1 IX2 w
      dsimp only at h
      unfold digV at h
      rw [if_neg (by omega), if_pos (by omega)] at h
      simp at h
      omega
    · exfalso
      unfold digV at h
      rw [if_neg (by omega), if_neg hn, if_neg (by omega), if_neg (by omega)] at h
      cases h
theorem value_none (b : Nat) (hx : Bool) (s : ByteArray) (i : Nat) (hb : (hx = true ∧ b = 16) ∨ (hx = false ∧ b = 10)) (hs : s.size ≤ 100000) (hi : i < s.size) (h : digV b (Utf8.decode s i).1 = none) (w : World) :
    Calls Try.prog 46 #[.string s, .int .i64 (i : Int), .bool hx] w fun e w' => e = .returned (.tuple #[.int .i64 (-1), .int .i64 0]) ∧ w' = w := by
  have n1 : ¬ (48 ≤ (Utf8.decode s i).1 ∧ (Utf8.decode s i).1 ≤ 57) := fun hh => by unfold digV at h; rw [if_pos hh] at h; cases h
  have n2 : ¬ (65296 ≤ (Utf8.decode s i).1 ∧ (Utf8.decode s i).1 ≤ 65305) := fun hh => by unfold digV at h; rw [if_neg n1, if_pos hh] at h; cases h
  have n3 : ¬ (b = 16 ∧ 97 ≤ (Utf8.decode s i).1 ∧ (Utf8.decode s i).1 ≤ 102) := fun hh => by unfold digV at h; rw [if_neg n1, if_neg n2, if_pos hh] at h; cases h
  have n4 : ¬ (b = 16 ∧ 65 ≤ (Utf8.decode s i).1 ∧ (Utf8.decode s i).1 ≤ 70) := fun hh => by unfold digV at h; rw [if_neg n1, if_neg n2, if_neg n3, if_pos hh] at h; cases h
  by_cases hc : byN s i < 128
  · rw [decode_low s i hi hc] at n1 n2 n3 n4
    dsimp only at n1 n2 n3 n4
    refine value_nolow s hx i ((byN s i : Nat) : Int) (by omega) (by omega) (by omega) ?_ (index_at s i hi) w
    rcases hb with ⟨rfl, rfl⟩ | ⟨rfl, rfl⟩
    · have : byN s i < 48 ∨ (57 < byN s i ∧ byN s i < 65) ∨ (70 < byN s i ∧ byN s i < 97) ∨ 102 < byN s i := by omega
      rcases this with h | h | h | h
      · exact Or.inl (by omega)
      · exact Or.inr (Or.inl (by omega))
      · exact Or.inr (Or.inr (Or.inr (Or.inl (by omega))))
      · exact Or.inr (Or.inr (Or.inr (Or.inr (Or.inr (by omega)))))
    · have : byN s i < 48 ∨ (57 < byN s i ∧ byN s i < 65) ∨ (65 ≤ byN s i ∧ byN s i ≤ 70) ∨ (70 < byN s i ∧ byN s i < 97) ∨ (97 ≤ byN s i ∧ byN s i ≤ 102) ∨ 102 < byN s i := by omega
      rcases this with h | h | h | h | h | h
      · exact Or.inl (by omega)
      · exact Or.inr (Or.inl (by omega))
      · exact Or.inr (Or.inr (Or.inl ⟨by omega, by omega, rfl⟩))
      · exact Or.inr (Or.inr (Or.inr (Or.inl (by omega))))
      · exact Or.inr (Or.inr (Or.inr (Or.inr (Or.inl ⟨by omega, by omega, rfl⟩))))
      · exact Or.inr (Or.inr (Or.inr (Or.inr (Or.inr (by omega)))))
  · rcases decode_wide s i hi (by omega) with ⟨⟨w1, w2, w3, w4, w5⟩, hd⟩ | ⟨hw, _, _⟩
    · rw [hd] at n2
      dsimp only at n2
      omega
    · refine value_nohigh s hx i ((byN s i : Nat) : Int) ((byN s (i + 1) : Nat) : Int) ((byN s (i + 2) : Nat) : Int) (by omega) (by omega) (by omega) ?_ (index_at s i hi) (fun h => index_at s (i + 1) (by omega)) (fun h => index_at s (i + 2) (by omega)) w
      by_cases k1 : i + 2 < s.size
      · by_cases k2 : byN s i = 239
        · by_cases k3 : byN s (i + 1) = 188
          · by_cases k4 : byN s (i + 2) < 144
            · exact Or.inr (Or.inr (Or.inr (Or.inl (by omega))))
            · exact Or.inr (Or.inr (Or.inr (Or.inr (by omega))))
          · exact Or.inr (Or.inr (Or.inl ⟨by omega, by omega, by rw [beq_eq_false_iff_ne]; omega⟩))
        · exact Or.inr (Or.inl ⟨by omega, by rw [beq_eq_false_iff_ne]; omega⟩)
      · exact Or.inl (by omega)

end Go.Proofs.Ytlndeghggdpmaaa
