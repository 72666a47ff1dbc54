/- PolyLimits of anything. -/
import Derived.Test.YtfjdnlcfhgamfaaDoorPL1
import Derived.Test.YtfjdnlcfhgamfaaDoorFZ
namespace Go.Proofs.YtfjdnlcfhgamfaaDoor
open Go.RowKit

set_option maxHeartbeats 2000000 in
theorem plim_g0 (x n m : Int)  (h0 : x < 0) (w : World) (hg : Glob w) : Calls Tryd.prog 6 #[.int .i64 x, .int .i64 n, .int .i64 m] w fun e w' => e = .returned (.bool true) ∧ Below w.heap.size w w' := by
  have HG : Hid (Glob w) := hg
  clear hg
  go_enter Tryd.func6, Tryd.ntmps6
  go_wp2_with fail
  refine (alive7_any w HG.out).mono ?_
  rintro e w1 ⟨rfl, hb1⟩
  go_wp2
  go_ret
  exact ⟨rfl, hb1⟩
set_option maxHeartbeats 2000000 in
theorem plim_g1 (x n m : Int) (h0 : ¬ x < 0) (h1 : 3 < x) (w : World) (hg : Glob w) : Calls Tryd.prog 6 #[.int .i64 x, .int .i64 n, .int .i64 m] w fun e w' => e = .returned (.bool true) ∧ Below w.heap.size w w' := by
  have HG : Hid (Glob w) := hg
  clear hg
  go_enter Tryd.func6, Tryd.ntmps6
  go_wp2_with fail
  refine (alive7_any w HG.out).mono ?_
  rintro e w1 ⟨rfl, hb1⟩
  go_wp2
  go_ret
  exact ⟨rfl, hb1⟩
set_option maxHeartbeats 2000000 in
theorem plim_g2 (x n m : Int) (h0 : ¬ x < 0) (h1 : ¬ 3 < x) (h2 : n < 1) (w : World) (hg : Glob w) : Calls Tryd.prog 6 #[.int .i64 x, .int .i64 n, .int .i64 m] w fun e w' => e = .returned (.bool true) ∧ Below w.heap.size w w' := by
  have HG : Hid (Glob w) := hg
  clear hg
  go_enter Tryd.func6, Tryd.ntmps6
  go_wp2_with fail
  refine (alive7_any w HG.out).mono ?_
  rintro e w1 ⟨rfl, hb1⟩
  go_wp2
  go_ret
  exact ⟨rfl, hb1⟩
set_option maxHeartbeats 2000000 in
theorem plim_g3 (x n m : Int) (h0 : ¬ x < 0) (h1 : ¬ 3 < x) (h2 : ¬ n < 1) (h3 : m < 1) (w : World) (hg : Glob w) : Calls Tryd.prog 6 #[.int .i64 x, .int .i64 n, .int .i64 m] w fun e w' => e = .returned (.bool true) ∧ Below w.heap.size w w' := by
  have HG : Hid (Glob w) := hg
  clear hg
  go_enter Tryd.func6, Tryd.ntmps6
  go_wp2_with fail
  refine (alive7_any w HG.out).mono ?_
  rintro e w1 ⟨rfl, hb1⟩
  go_wp2
  go_ret
  exact ⟨rfl, hb1⟩
set_option maxHeartbeats 2000000 in
theorem plim_g4 (x n m : Int) (h0 : ¬ x < 0) (h1 : ¬ 3 < x) (h2 : ¬ n < 1) (h3 : ¬ m < 1) (h4 : 1100 < n) (w : World) (hg : Glob w) : Calls Tryd.prog 6 #[.int .i64 x, .int .i64 n, .int .i64 m] w fun e w' => e = .returned (.bool true) ∧ Below w.heap.size w w' := by
  have HG : Hid (Glob w) := hg
  clear hg
  go_enter Tryd.func6, Tryd.ntmps6
  go_wp2_with fail
  refine (alive7_any w HG.out).mono ?_
  rintro e w1 ⟨rfl, hb1⟩
  go_wp2
  go_ret
  exact ⟨rfl, hb1⟩
set_option maxHeartbeats 2000000 in
theorem plim_g5 (x n m : Int) (h0 : ¬ x < 0) (h1 : ¬ 3 < x) (h2 : ¬ n < 1) (h3 : ¬ m < 1) (h4 : ¬ 1100 < n) (h5 : 40 < m) (w : World) (hg : Glob w) : Calls Tryd.prog 6 #[.int .i64 x, .int .i64 n, .int .i64 m] w fun e w' => e = .returned (.bool true) ∧ Below w.heap.size w w' := by
  have HG : Hid (Glob w) := hg
  clear hg
  go_enter Tryd.func6, Tryd.ntmps6
  go_wp2_with fail
  refine (alive7_any w HG.out).mono ?_
  rintro e w1 ⟨rfl, hb1⟩
  go_wp2
  go_ret
  exact ⟨rfl, hb1⟩
theorem szE_congr {el el' f g : Nat → Nat} : ∀ n, (∀ i, i < n → (el (f i) = 0 ↔ el' (g i) = 0)) → szE el f n = szE el' g n
  | 0, _ => rfl
  | n + 1, h => by
    have ih := szE_congr n (fun i hi => h i (by omega))
    unfold szE
    by_cases c : el (f n) = 0
    · rw [if_pos c, if_pos ((h n (by omega)).1 c)]; exact ih
    · rw [if_neg c, if_neg (fun d => c ((h n (by omega)).2 d))]
theorem el_mod (s a : Nat) : addP s a 0 = a % modN s := rfl
theorem el_lt {s a : Nat} (h : a < modN s) : addP s a 0 = a := Nat.mod_eq_of_lt h
theorem add00 (s : Nat) : addP s 0 0 = 0 := Nat.zero_mod _
theorem mul0x (s x : Nat) : mulP s 0 x = 0 := by unfold mulP; rw [Nat.zero_mul, Nat.zero_mod]
theorem mulx0 (s x : Nat) : mulP s x 0 = 0 := by unfold mulP; rw [Nat.mul_zero, Nat.zero_mod]
theorem sub00 (s : Nat) : subP s 0 0 = 0 := by unfold subP; rw [Nat.zero_mod, Nat.sub_zero, Nat.zero_add, Nat.mod_self]
theorem modN_ge (s : Nat) : 2 < modN s := by
  match s with
  | 0 => decide
  | 1 => decide
  | 2 => decide
  | _ + 3 => exact (by decide : 2 < 28948022309329048855892746252171976963363056481941647379679742748393362948097)
theorem addl (s a : Nat) (h : a ≤ 2) : addP s a 0 = a := Nat.mod_eq_of_lt (Nat.lt_of_le_of_lt h (modN_ge s))
theorem szE_delta (s p c : Nat) (hc : c ≤ 2) (h0 : c ≠ 0) : ∀ n, p < n → szE (fun a => addP s a 0) (fun i => if i = p then c else 0) n = p + 1
  | 0, h => by omega
  | n + 1, h => by
    show (if addP s (if n = p then c else 0) 0 = 0 then szE (fun a => addP s a 0) (fun i => if i = p then c else 0) n else n + 1) = p + 1
    by_cases e : n = p
    · rw [if_pos e, addl s c hc, if_neg h0, e]
    · rw [if_neg e, add00, if_pos rfl]
      exact szE_delta s p c hc h0 n (by omega)
theorem szE_none {el f : Nat → Nat} : ∀ n, (∀ i, i < n → el (f i) = 0) → szE el f n = 0
  | 0, _ => rfl
  | n + 1, h => by unfold szE; rw [if_pos (h n (by omega))]; exact szE_none n (fun i hi => h i (by omega))
/-- X^(N-1) divided by 2 X^(M-1) leaves nothing. -/
theorem lim_rest (s N M Q p q sh : Nat) (h1 : 1 ≤ M) (h2 : M ≤ N) (hQ : Q = N + 1 - M) (hp : p = N - 1) (hq : q = M - 1) (hsh : sh < modN s ∧ sh * 2 % modN s = 1) : ∀ d, d + 1 ≤ Q → ∀ t, t < N → drs s (fun i => addP s (if i = p then 1 else 0) 0) (fun i => addP s (if i = q then 2 else 0) 0) M sh Q (d + 1) t = 0
  | 0, hd, t, ht => by
    show (if Q - 1 ≤ t ∧ t < Q - 1 + M then addP s ((fun i => addP s (if i = p then 1 else 0) 0) t) (mulP s (subP s 0 (mulP s ((fun i => addP s (if i = p then 1 else 0) 0) (Q - 1 + (M - 1))) sh)) ((fun i => addP s (if i = q then 2 else 0) 0) (t - (Q - 1)))) else (fun i => addP s (if i = p then 1 else 0) 0) t) = 0
    dsimp only
    by_cases e : t = p
    · rw [if_pos (by omega), if_pos e, if_pos (by omega), if_pos (by omega), addl s 1 (by omega), addl s 2 (by omega)]
      refine fz_inj (c := s) (addP_lt _ _ _) (modN_pos s) ?_
      have e2 : fz s sh * fz s 2 = 1 := by rw [← fz_mul, show mulP s sh 2 = 1 from hsh.2]; exact fz_one s
      rw [fz_add, fz_mul, fz_sub, fz_mul, fz_one, fz_zero]
      grind
    · rw [if_neg e, add00]
      by_cases c : Q - 1 ≤ t ∧ t < Q - 1 + M
      · rw [if_pos c, if_neg (show ¬ t - (Q - 1) = q by omega), add00, mulx0, add00]
      · rw [if_neg c]
  | d + 1, hd, t, ht => by
    have ih := lim_rest s N M Q p q sh h1 h2 hQ hp hq hsh d (by omega)
    show (if Q - (d + 1 + 1) ≤ t ∧ t < Q - (d + 1 + 1) + M then addP s (drs s (fun i => addP s (if i = p then 1 else 0) 0) (fun i => addP s (if i = q then 2 else 0) 0) M sh Q (d + 1) t) (mulP s (subP s 0 (mulP s (drs s (fun i => addP s (if i = p then 1 else 0) 0) (fun i => addP s (if i = q then 2 else 0) 0) M sh Q (d + 1) (Q - (d + 1 + 1) + (M - 1))) sh)) ((fun i => addP s (if i = q then 2 else 0) 0) (t - (Q - (d + 1 + 1))))) else drs s (fun i => addP s (if i = p then 1 else 0) 0) (fun i => addP s (if i = q then 2 else 0) 0) M sh Q (d + 1) t) = 0
    rw [ih t ht, ih _ (by omega), mul0x, sub00, mul0x, add00]
    split <;> rfl
theorem plim_in (s N M : Nat) (hs : s < 4) (hN1 : 1 ≤ N) (hN2 : N ≤ 1100) (hM1 : 1 ≤ M) (hM2 : M ≤ 40) (w : World) (hg : Glob w) : Calls Tryd.prog 6 #[.int .i64 (s : Int), .int .i64 (N : Int), .int .i64 (M : Int)] w fun e w' => e = .returned (.bool true) ∧ Below w.heap.size w w' := by
  obtain ⟨N3, h3⟩ : ∃ z, z = N + 3 := ⟨_, rfl⟩
  obtain ⟨p, hp⟩ : ∃ z, z = N - 1 := ⟨_, rfl⟩
  obtain ⟨q, hq⟩ : ∃ z, z = M - 1 := ⟨_, rfl⟩
  have eA : szE (fun a => addP s a 0) (fun i => if i = p then 1 else 0) N3 = N := by rw [szE_delta s p 1 (by omega) (by omega) N3 (by omega)]; omega
  have eB : szE (fun a => addP s a 0) (fun i => if i = q then 2 else 0) M = M := by rw [szE_delta s q 2 (by omega) (by omega) M (by omega)]; omega
  have mA : ∀ i, i < N3 → (fun i => if i = p then 1 else 0) i < 115792089237316195423570985008687907853269984665640564039457584007913129639936 := fun i _ => by dsimp only; split <;> decide
  have mB : ∀ i, i < M → (fun i => if i = q then 2 else 0) i < 115792089237316195423570985008687907853269984665640564039457584007913129639936 := fun i _ => by dsimp only; split <;> decide
  have m70 : 1024 < N + M → ∀ A B w, Glob w → Es w (.slice (some ⟨A, 0, none⟩) N3 N3) N3 (fun i => if i = p then 1 else 0) → Es w (.slice (some ⟨B, 0, none⟩) M M) M (fun i => if i = q then 2 else 0) → Calls Tryd.prog 22 #[.int .i64 (s : Int), .slice (some ⟨A, 0, none⟩) N3 N3, .slice (some ⟨B, 0, none⟩) M M] w fun e w' => e = .returned (.tuple #[.slice none 0 0, .int .i64 70]) ∧ Below w.heap.size w w' := fun hd A B w hg hv hu => by
    have h := pMul_deg s N3 N3 M M (some ⟨A, 0, none⟩) (some ⟨B, 0, none⟩) (fun i => if i = p then 1 else 0) (fun i => if i = q then 2 else 0) hs (by omega) (by omega) mA mB w hg hv hu
    rw [eA, eB] at h
    exact h hd
  have m0 : N + M ≤ 1024 → ∀ L, L = N + M - 1 → ∀ A B w, Glob w → Es w (.slice (some ⟨A, 0, none⟩) N3 N3) N3 (fun i => if i = p then 1 else 0) → Es w (.slice (some ⟨B, 0, none⟩) M M) M (fun i => if i = q then 2 else 0) → Calls Tryd.prog 22 #[.int .i64 (s : Int), .slice (some ⟨A, 0, none⟩) N3 N3, .slice (some ⟨B, 0, none⟩) M M] w fun e w' => (∃ G, e = .returned (.tuple #[.slice (some ⟨G, 0, none⟩) L L, .int .i64 0])) ∧ Below w.heap.size w w' := fun hd L hL A B w hg hv hu => by
    have h := pMul_in s N3 N3 M M (some ⟨A, 0, none⟩) (some ⟨B, 0, none⟩) (fun i => if i = p then 1 else 0) (fun i => if i = q then 2 else 0) hs (by omega) (by omega) mA mB w hg hv hu
    rw [eA, eB, ← hL] at h
    refine (h hd (by omega) (by omega)).mono ?_
    rintro e w' ⟨⟨G, rfl, _, _⟩, hb⟩
    exact ⟨⟨G, rfl⟩, hb⟩
  have d70 : 1024 < N → ∀ A B w, Glob w → Es w (.slice (some ⟨A, 0, none⟩) N3 N3) N3 (fun i => if i = p then 1 else 0) → Es w (.slice (some ⟨B, 0, none⟩) M M) M (fun i => if i = q then 2 else 0) → Calls Tryd.prog 24 #[.int .i64 (s : Int), .slice (some ⟨A, 0, none⟩) N3 N3, .slice (some ⟨B, 0, none⟩) M M] w fun e w' => e = .returned (.tuple #[.slice none 0 0, .slice none 0 0, .int .i64 70]) ∧ Below w.heap.size w w' := fun hd A B w hg hv hu => by
    have h := pDiv_deg s N3 N3 M M (some ⟨A, 0, none⟩) (some ⟨B, 0, none⟩) (fun i => if i = p then 1 else 0) (fun i => if i = q then 2 else 0) hs (by omega) (by omega) mA mB w hg hv hu
    rw [eA, eB] at h
    exact h (by omega) hd
  have d0 : N ≤ 1024 → ∀ R, (∀ sh, sh < modN s ∧ sh * 2 % modN s = 1 → szE (fun a => addP s a 0) (drs s (fun i => addP s (if i = p then 1 else 0) 0) (fun i => addP s (if i = q then 2 else 0) 0) M sh (N + 1 - M) (N + 1 - M)) N = R) → ∀ A B w, Glob w → Es w (.slice (some ⟨A, 0, none⟩) N3 N3) N3 (fun i => if i = p then 1 else 0) → Es w (.slice (some ⟨B, 0, none⟩) M M) M (fun i => if i = q then 2 else 0) → Calls Tryd.prog 24 #[.int .i64 (s : Int), .slice (some ⟨A, 0, none⟩) N3 N3, .slice (some ⟨B, 0, none⟩) M M] w fun e w' => (∃ G A c k, e = .returned (.tuple #[.slice (some ⟨G, 0, none⟩) k k, .slice (some ⟨A, 0, none⟩) R c, .int .i64 0])) ∧ Below w.heap.size w w' := fun hd R hR A B w hg hv hu => by
    have h := pDiv_in s N3 N3 M M (some ⟨A, 0, none⟩) (some ⟨B, 0, none⟩) (fun i => if i = p then 1 else 0) (fun i => if i = q then 2 else 0) hs (by omega) (by omega) mA mB w hg hv hu
    rw [eA, eB] at h
    refine (h (by omega) hd).mono ?_
    rintro e w' ⟨⟨sh, G, A2, h1, rfl, _⟩, hb⟩
    refine ⟨⟨G, A2, N, N + 1 - M, ?_⟩, hb⟩
    have e2 : addP s ((fun i => if i = q then 2 else 0) (M - 1)) 0 = 2 := by dsimp only; rw [if_pos hq.symm, addl s 2 (by omega)]
    rw [e2] at h1
    rw [hR sh h1]
  by_cases c1 : 1024 < N
  · exact plim_a s N M N3 p q hs hN1 hN2 hM1 hM2 h3 hp hq w hg c1 (m70 (by omega)) (d70 c1)
  · by_cases c2 : 1024 < N + M
    · refine plim_b s N M N3 p q hs hN1 hN2 hM1 hM2 h3 hp hq w hg (by omega) c2 0 rfl (m70 c2) (d0 (by omega) 0 (fun sh h => szE_none N (fun i hi => ?_)))
      obtain ⟨d, hd⟩ : ∃ d, N + 1 - M = d + 1 := ⟨N - M, by omega⟩
      have h2 := lim_rest s N M (N + 1 - M) p q sh hM1 (by omega) rfl hp hq h d (by omega) i hi
      rw [← hd] at h2
      show addP s (drs s (fun i => addP s (if i = p then 1 else 0) 0) (fun i => addP s (if i = q then 2 else 0) 0) M sh (N + 1 - M) (N + 1 - M) i) 0 = 0
      rw [h2, add00]
    · by_cases c3 : M ≤ N
      · refine plim_c s N M N3 p q hs hN1 hN2 hM1 hM2 h3 hp hq w hg (by omega) 0 (N + M - 1) rfl rfl (m0 (by omega) _ rfl) (d0 (by omega) 0 (fun sh h => szE_none N (fun i hi => ?_)))
        obtain ⟨d, hd⟩ : ∃ d, N + 1 - M = d + 1 := ⟨N - M, by omega⟩
        have h2 := lim_rest s N M (N + 1 - M) p q sh hM1 (by omega) rfl hp hq h d (by omega) i hi
        rw [← hd] at h2
        show addP s (drs s (fun i => addP s (if i = p then 1 else 0) 0) (fun i => addP s (if i = q then 2 else 0) 0) M sh (N + 1 - M) (N + 1 - M) i) 0 = 0
        rw [h2, add00]
      · refine plim_d s N M N3 p q hs hN1 hN2 hM1 hM2 h3 hp hq w hg (by omega) (by omega) N (N + M - 1) (by omega) rfl (m0 (by omega) _ rfl) (d0 (by omega) N (fun sh h => ?_))
        rw [show N + 1 - M = 0 by omega]
        show szE (fun a => addP s a 0) (fun i => addP s (if i = p then 1 else 0) 0) N = N
        have e3 : szE (fun a => addP s a 0) (fun i => addP s (if i = p then 1 else 0) 0) N = szE (fun a => addP s a 0) (fun i => if i = p then 1 else 0) N := szE_congr N (fun i _ => by
          show addP s (addP s _ 0) 0 = 0 ↔ addP s _ 0 = 0
          rw [el_lt (addP_lt _ _ _)])
        rw [e3, szE_delta s p 1 (by omega) (by omega) N (by omega)]
        omega
/-- PolyLimits is true of anything. -/
theorem plim_walk (x n m : Int) (w : World) (hg : Glob w) : Calls Tryd.prog 6 #[.int .i64 x, .int .i64 n, .int .i64 m] w fun e w' => e = .returned (.bool true) ∧ Below w.heap.size w w' := by
  by_cases h0 : x < 0
  · exact plim_g0 x n m h0 w hg
  by_cases h1 : 3 < x
  · exact plim_g1 x n m h0 h1 w hg
  by_cases h2 : n < 1
  · exact plim_g2 x n m h0 h1 h2 w hg
  by_cases h3 : m < 1
  · exact plim_g3 x n m h0 h1 h2 h3 w hg
  by_cases h4 : 1100 < n
  · exact plim_g4 x n m h0 h1 h2 h3 h4 w hg
  by_cases h5 : 40 < m
  · exact plim_g5 x n m h0 h1 h2 h3 h4 h5 w hg
  obtain ⟨s, rfl⟩ : ∃ s : Nat, x = (s : Int) := ⟨x.toNat, by omega⟩
  obtain ⟨N, rfl⟩ : ∃ s : Nat, n = (s : Int) := ⟨n.toNat, by omega⟩
  obtain ⟨M, rfl⟩ : ∃ s : Nat, m = (s : Int) := ⟨m.toNat, by omega⟩
  exact plim_in s N M (by omega) (by omega) (by omega) (by omega) (by omega) w hg
end Go.Proofs.YtfjdnlcfhgamfaaDoor
