/- The curves' equations: no point has X 0 or Y 0. No program is named here. -/
import Derived.Test.YtaeembdabnomaaaGreatDoorH1
namespace Go.Proofs.YtaeembdabnomaaaGreatDoor

/-- The b of each curve's equation. -/
def bN : Nat → Nat
  | 0 => 23
  | 1 => 21
  | _ => 5
theorem bN_lt (s : Nat) : 0 < bN s ∧ bN s < modN s := by
  match s with
  | 0 => decide
  | 1 => decide
  | 2 => decide
  | _ + 3 => exact (by decide : 0 < 5 ∧ 5 < 28948022309329048855892746252171976963363056481941647379679742748393362948097)
theorem third (s : Nat) : (modN s - 1) % 3 = 0 := by
  match s with
  | 0 => decide
  | 1 => decide
  | 2 => decide
  | _ + 3 => exact (by decide : (28948022309329048855892746252171976963363056481941647379679742748393362948097 - 1) % 3 = 0)
theorem pow_ne (m a e f : Nat) (he : e < 2 ^ f) (h : pm m a f e ≠ 1) : powM m a e ≠ 1 := by
  unfold powM; rw [← pm_eq m a f e he]; exact h
theorem pow_ne' {m a e : Nat} (m' a' e' f : Nat) (hm : m = m') (ha : a = a') (hx : e = e') (he : e' < 2 ^ f) (h : pm m' a' f e' ≠ 1) : powM m a e ≠ 1 := by
  subst hm ha hx; exact pow_ne _ _ _ f he h
set_option maxRecDepth 100000 in
/-- The opposite of b is no cube. -/
theorem cube_pow (s : Nat) : powM (modN s) (modN s - bN s) ((modN s - 1) / 3) ≠ 1 := by
  match s with
  | 0 => exact pow_ne' 16513537 16513514 5504512 24 (by rfl) (by rfl) (by rfl) (by decide) (by decide +kernel)
  | 1 => exact pow_ne' 16521217 16521196 5507072 24 (by rfl) (by rfl) (by rfl) (by decide) (by decide +kernel)
  | 2 => exact pow_ne' 28948022309329048855892746252171976963363056481941560715954676764349967630337 28948022309329048855892746252171976963363056481941560715954676764349967630332 9649340769776349618630915417390658987787685493980520238651558921449989210112 255 (by rfl) (by rfl) (by rfl) (by decide) (by decide +kernel)
  | n + 3 => exact pow_ne' 28948022309329048855892746252171976963363056481941647379679742748393362948097 28948022309329048855892746252171976963363056481941647379679742748393362948092 9649340769776349618630915417390658987787685493980549126559914249464454316032 255 (by rfl) (by rfl) (Eq.trans (congrArg (fun m => (m - 1) / 3) (show modN (n + 3) = 28948022309329048855892746252171976963363056481941647379679742748393362948097 from rfl)) (by decide)) (by decide) (by decide +kernel)
set_option maxRecDepth 100000 in
/-- b is no square. -/
theorem square_pow (s : Nat) : powM (modN s) (bN s) ((modN s - 1) / 2) ≠ 1 := by
  match s with
  | 0 => exact pow_ne' 16513537 23 8256768 24 (by rfl) (by rfl) (by rfl) (by decide) (by decide +kernel)
  | 1 => exact pow_ne' 16521217 21 8260608 24 (by rfl) (by rfl) (by rfl) (by decide) (by decide +kernel)
  | 2 => exact pow_ne' 28948022309329048855892746252171976963363056481941560715954676764349967630337 5 14474011154664524427946373126085988481681528240970780357977338382174983815168 255 (by rfl) (by rfl) (by rfl) (by decide) (by decide +kernel)
  | n + 3 => exact pow_ne' 28948022309329048855892746252171976963363056481941647379679742748393362948097 5 14474011154664524427946373126085988481681528240970823689839871374196681474048 255 (by rfl) (by rfl) (Eq.trans (congrArg (fun m => (m - 1) / 2) (show modN (n + 3) = 28948022309329048855892746252171976963363056481941647379679742748393362948097 from rfl)) (by decide)) (by decide) (by decide +kernel)
/-- No point has Y 0. -/
theorem cube_none (s x : Nat) : (x * x * x + bN s) % modN s ≠ 0 := by
  intro h
  have hb := bN_lt s
  have hp := modN_prime s
  have h2 := hp.1
  obtain ⟨m, em⟩ : ∃ m, m = modN s := ⟨_, rfl⟩
  have hc := cube_pow s
  have h3 := third s
  rw [← em] at h hb hp h2 hc h3
  have hx : x * x * x % m = m - bN s := by
    have hl := Nat.mod_lt (x * x * x) (show 0 < m by omega)
    rw [Nat.add_mod, Nat.mod_eq_of_lt hb.2] at h
    generalize x * x * x % m = y at h hl ⊢
    rcases Nat.lt_or_ge (y + bN s) m with h1 | h1
    · rw [Nat.mod_eq_of_lt h1] at h; omega
    · rw [Nat.mod_eq_sub_mod h1, Nat.mod_eq_of_lt (by omega)] at h; omega
  have hx0 : x % m ≠ 0 := by
    intro h0
    rw [Nat.mul_assoc, ← Nat.mod_mul_mod, h0, Nat.zero_mul, Nat.zero_mod] at hx
    omega
  apply hc
  unfold powM
  rw [← hx, ← Nat.pow_mod, show x * x * x = x ^ 3 from by rw [Nat.pow_succ, Nat.pow_succ, Nat.pow_one], ← Nat.pow_mul, show 3 * ((m - 1) / 3) = m - 1 from by omega]
  exact fermat_one hp hx0
/-- No point has X 0. -/
theorem square_none (s y : Nat) : y * y % modN s ≠ bN s := by
  intro h
  have hb := bN_lt s
  have hp := modN_prime s
  have h2 := hp.1
  have hod := (modN_odd s).1
  obtain ⟨m, em⟩ : ∃ m, m = modN s := ⟨_, rfl⟩
  have hc := square_pow s
  rw [← em] at h hb hp h2 hc hod
  have hy0 : y % m ≠ 0 := by
    intro h0
    rw [← Nat.mod_mul_mod, h0, Nat.zero_mul, Nat.zero_mod] at h
    omega
  apply hc
  unfold powM
  rw [← h, ← Nat.pow_mod, show y * y = y ^ 2 from by rw [Nat.pow_two], ← Nat.pow_mul, show 2 * ((m - 1) / 2) = m - 1 from by omega]
  exact fermat_one hp hy0

end Go.Proofs.YtaeembdabnomaaaGreatDoor
