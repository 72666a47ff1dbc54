/- What field.inverse does. -/
import Derived.Test.YtaeembdabnomaaaGreatDoorF10
import Derived.Test.YtaeembdabnomaaaGreatDoorEqS
import Derived.Test.YtaeembdabnomaaaGreatDoorPrm
namespace Go.Proofs.YtaeembdabnomaaaGreatDoor
open Go.RowKit

/-- The number that lies in a block. -/
def cellN (w : World) (b i : Nat) : Nat := match w.cell? ⟨b, i, none⟩ with | some (.int _ x) => x.toNat | _ => 0
def numAt (w : World) (b : Nat) : Nat := cellN w b 0 + 18446744073709551616 * cellN w b 1 + 340282366920938463463374607431768211456 * cellN w b 2 + 6277101735386680763835789423207666416102355444464034512896 * cellN w b 3
theorem numAt_eq {w : World} {t : TypeId} {b x : Nat} (h : Blk w t b (fun i => limb i x)) (hx : x < 115792089237316195423570985008687907853269984665640564039457584007913129639936) : numAt w b = x := by
  have c := h.cell
  unfold numAt cellN
  rw [c 0 (by decide), c 1 (by decide), c 2 (by decide), c 3 (by decide)]
  exact (limbs_sum x hx).symm

/-- What holds at every turn. -/
def InvI (m x u v p q : Nat) : Prop := p * x % m = u % m ∧ q * x % m = v % m ∧ v % 2 = 1 ∧ Nat.gcd u v = 1 ∧ p < m ∧ q < m ∧ u ≤ m ∧ v ≤ m
theorem invI_start (m x : Nat) (hm : 1 < m) (ho : m % 2 = 1) (hx : x < m) (hg : Nat.gcd x m = 1) : InvI m x x m 1 0 :=
  ⟨by rw [Nat.one_mul], by rw [Nat.zero_mul, Nat.zero_mod, Nat.mod_self], ho, hg, hm, by omega, by omega, by omega⟩
theorem invI_end (m x v p q : Nat) (h : InvI m x 0 v p q) (hm : 1 < m) : q * x % m = 1 := by
  obtain ⟨_, h2, _, h4, _⟩ := h
  rw [Nat.gcd_zero_left] at h4
  rw [h2, h4, Nat.mod_eq_of_lt hm]
theorem half_mod (m p x u : Nat) (ho : m % 2 = 1) (he : u % 2 = 0) (h : p * x % m = u % m) : halfN m p * x % m = u / 2 % m := by
  -- twice the left is p x, twice the right is u
  have hc : Nat.Coprime m 2 := by
    have h1 : Nat.gcd 2 m = Nat.gcd (m % 2) 2 := Nat.gcd_rec 2 m
    rw [ho] at h1
    show Nat.gcd m 2 = 1
    rw [Nat.gcd_comm, h1]; decide
  have h2 : 2 * (halfN m p * x) % m = 2 * (u / 2) % m := by
    rw [show 2 * (u / 2) = u from by omega, ← h]
    unfold halfN
    split
    · rw [← Nat.mul_assoc, show 2 * (p / 2) = p from by omega]
    · rw [← Nat.mul_assoc, show 2 * ((p + m) / 2) = p + m from by omega, Nat.add_mul, Nat.add_mul_mod_self_left]
  rcases Nat.le_total (halfN m p * x) (u / 2) with hle | hle
  · have hd := same_rest (Nat.mul_le_mul_left 2 hle) h2
    rw [← Nat.mul_sub] at hd
    obtain ⟨k, hk⟩ := Nat.Coprime.dvd_of_dvd_mul_left hc hd
    rw [show u / 2 = halfN m p * x + m * k from by omega, Nat.add_mul_mod_self_left]
  · have hd := same_rest (Nat.mul_le_mul_left 2 hle) h2.symm
    rw [← Nat.mul_sub] at hd
    obtain ⟨k, hk⟩ := Nat.Coprime.dvd_of_dvd_mul_left hc hd
    rw [show halfN m p * x = u / 2 + m * k from by omega, Nat.add_mul_mod_self_left]
theorem halfN_lt (m p : Nat) (h : p < m) : halfN m p < m := by unfold halfN; split <;> omega
theorem gcd_half (u v : Nat) (he : u % 2 = 0) (_hv : v % 2 = 1) (h : Nat.gcd u v = 1) : Nat.gcd (u / 2) v = 1 := by
  have h1 : Nat.gcd (u / 2) v ∣ Nat.gcd u v := Nat.dvd_gcd (Nat.dvd_trans (Nat.gcd_dvd_left _ _) ⟨2, by omega⟩) (Nat.gcd_dvd_right _ _)
  rw [h] at h1
  exact Nat.dvd_one.mp h1
theorem gcd_sub (u v : Nat) (hle : v ≤ u) (h : Nat.gcd u v = 1) : Nat.gcd (u - v) v = 1 := by
  have h1 : Nat.gcd (u - v) v ∣ Nat.gcd u v := by
    refine Nat.dvd_gcd ?_ (Nat.gcd_dvd_right _ _)
    have := Nat.dvd_add (Nat.gcd_dvd_left (u - v) v) (Nat.gcd_dvd_right (u - v) v)
    rw [show u - v + v = u from by omega] at this
    exact this
  rw [h] at h1
  exact Nat.dvd_one.mp h1
theorem diff_mul (m x u v p q : Nat) (h1 : p * x % m = u % m) (h2 : q * x % m = v % m) (_hp : p < m) (hq : q < m) (hle : v ≤ u) : diffN m p q * x % m = (u - v) % m := by
  -- (p - q) x + q x = p x
  have key : (diffN m p q * x + q * x) % m = u % m := by
    rw [← Nat.add_mul, ← h1]
    unfold diffN
    split
    · rw [show p + m - q + q = p + m from by omega, Nat.add_mul, Nat.add_mul_mod_self_left]
    · rw [show p - q + q = p from by omega]
  have k2 : (diffN m p q * x + v) % m = u % m := by rw [← key, Nat.add_mod, ← h2, ← Nat.add_mod]
  rcases Nat.le_total (diffN m p q * x + v) u with hl | hl
  · obtain ⟨k, hk⟩ := same_rest hl k2
    rw [show u - v = diffN m p q * x + m * k from by omega, Nat.add_mul_mod_self_left]
  · obtain ⟨k, hk⟩ := same_rest hl k2.symm
    rw [show diffN m p q * x = (u - v) + m * k from by omega, Nat.add_mul_mod_self_left]
theorem diffN_lt (m p q : Nat) (hp : p < m) (hq : q < m) : diffN m p q < m := by unfold diffN; split <;> omega
theorem invI_half {m x u v p q : Nat} (ho : m % 2 = 1) (h : InvI m x u v p q) (he : u % 2 = 0) : InvI m x (u / 2) v (halfN m p) q := by
  obtain ⟨h1, h2, h3, h4, h5, h6, h7, h8⟩ := h
  exact ⟨half_mod m p x u ho he h1, h2, h3, gcd_half u v he h3 h4, halfN_lt m p h5, h6, by omega, h8⟩
theorem invI_keep {m x u v p q : Nat} (h : InvI m x u v p q) (hle : v ≤ u) : InvI m x (u - v) v (diffN m p q) q := by
  obtain ⟨h1, h2, h3, h4, h5, h6, h7, h8⟩ := h
  exact ⟨diff_mul m x u v p q h1 h2 h5 h6 hle, h2, h3, gcd_sub u v hle h4, diffN_lt m p q h5 h6, h6, by omega, h8⟩
theorem invI_swap {m x u v p q : Nat} (h : InvI m x u v p q) (hu : u % 2 = 1) : InvI m x v u q p := by
  obtain ⟨h1, h2, h3, h4, h5, h6, h7, h8⟩ := h
  exact ⟨h2, h1, hu, by rw [Nat.gcd_comm]; exact h4, h6, h5, h8, h7⟩

end Go.Proofs.YtaeembdabnomaaaGreatDoor
