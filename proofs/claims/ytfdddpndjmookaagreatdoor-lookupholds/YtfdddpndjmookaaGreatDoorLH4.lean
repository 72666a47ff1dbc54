/- LookupHolds where all fits. -/
import Derived.Test.YtfdddpndjmookaaGreatDoorLH3
import Derived.Test.YtfdddpndjmookaaGreatDoorMQ7
import Derived.Laws.Rows
import Derived.Deep.MidRow
namespace Go.Proofs.YtfdddpndjmookaaGreatDoor
open Go.RowKit

theorem lay_put {b : Nat} {t : TypeId} : ∀ (vs : List Value) (o : Nat) (w : World) (old : Array Value), Lay w t b old → o + vs.length ≤ old.size →
    ∃ new : Array Value, Lay (w.setCells b o vs) t b new ∧ new.size = old.size ∧ (∀ j, new[j]? = if o ≤ j ∧ j < o + vs.length then vs[j - o]? else old[j]?) ∧ Kept b w (w.setCells b o vs)
  | [], o, w, old, h, _ => ⟨old, h, rfl, fun j => by rw [if_neg (by simp)], Kept.refl _ _⟩
  | v :: r, o, w, old, h, hl => by
    have h1 : Lay (w.setCell ⟨b, o, none⟩ v) t b (old.setIfInBounds o v) := by unfold Lay at h ⊢; simp [World.setCell, Array.getElem?_modify, h]
    obtain ⟨new, n1, n2, n3, n4⟩ := lay_put r (o + 1) (w.setCell ⟨b, o, none⟩ v) (old.setIfInBounds o v) h1 (by simp at hl ⊢; omega)
    refine ⟨new, n1, by rw [n2]; simp, fun j => ?_, ((Kept.refl b w).setCell o v).trans n4⟩
    rw [n3 j]
    have hlen : (v :: r).length = r.length + 1 := rfl
    by_cases hj : j = o
    · subst hj
      rw [if_neg (by omega), if_pos (by omega), Nat.sub_self, Array.getElem?_setIfInBounds_self_of_lt (by rw [hlen] at hl; omega)]
      rfl
    · by_cases hk : o + 1 ≤ j ∧ j < o + 1 + r.length
      · rw [if_pos hk, if_pos (by omega), show j - o = (j - (o + 1)) + 1 by omega]
        rfl
      · rw [if_neg hk, if_neg (by omega), Array.getElem?_setIfInBounds_ne (fun e => hj e.symm)]
theorem Lay.putAll {b : Nat} {t : TypeId} {w : World} {old : Array Value} (h : Lay w t b old) (vs : Array Value) (hl : vs.size = old.size) :
    ∃ w', w.setCells b 0 vs.toList = w' ∧ Lay w' t b vs ∧ Kept b w w' ∧ w.there b 0 vs.size := by
  obtain ⟨new, n1, n2, n3, n4⟩ := lay_put vs.toList 0 w old h (by simp; omega)
  have e : new = vs := by
    refine Array.ext (by omega) (fun i h1 h2 => ?_)
    have h3 := n3 i
    rw [if_pos (by simp; omega), Nat.sub_zero, Array.getElem?_toList, Array.getElem?_eq_getElem h1, Array.getElem?_eq_getElem h2] at h3
    exact Option.some.inj h3
  rw [e] at n1
  refine ⟨_, rfl, n1, n4, fun j hj => ?_⟩
  rw [Nat.zero_add]
  unfold Lay at h
  refine ⟨?_, ?_⟩
  · simp [World.cell?, h, Array.getElem?_eq_getElem (show j < old.size by omega)]
  · simp [World.frozen?, h]
theorem one28 (x0 x1 x2 x3 x4 x5 x6 : Nat) : (#[.int .u64 ((limb 0 x0 : Nat) : Int), .int .u64 ((limb 1 x0 : Nat) : Int), .int .u64 ((limb 2 x0 : Nat) : Int), .int .u64 ((limb 3 x0 : Nat) : Int), .int .u64 ((limb 0 x1 : Nat) : Int), .int .u64 ((limb 1 x1 : Nat) : Int), .int .u64 ((limb 2 x1 : Nat) : Int), .int .u64 ((limb 3 x1 : Nat) : Int), .int .u64 ((limb 0 x2 : Nat) : Int), .int .u64 ((limb 1 x2 : Nat) : Int), .int .u64 ((limb 2 x2 : Nat) : Int), .int .u64 ((limb 3 x2 : Nat) : Int), .int .u64 ((limb 0 x3 : Nat) : Int), .int .u64 ((limb 1 x3 : Nat) : Int), .int .u64 ((limb 2 x3 : Nat) : Int), .int .u64 ((limb 3 x3 : Nat) : Int), .int .u64 ((limb 0 x4 : Nat) : Int), .int .u64 ((limb 1 x4 : Nat) : Int), .int .u64 ((limb 2 x4 : Nat) : Int), .int .u64 ((limb 3 x4 : Nat) : Int), .int .u64 ((limb 0 x5 : Nat) : Int), .int .u64 ((limb 1 x5 : Nat) : Int), .int .u64 ((limb 2 x5 : Nat) : Int), .int .u64 ((limb 3 x5 : Nat) : Int), .int .u64 ((limb 0 x6 : Nat) : Int), .int .u64 ((limb 1 x6 : Nat) : Int), .int .u64 ((limb 2 x6 : Nat) : Int), .int .u64 ((limb 3 x6 : Nat) : Int)] : Array Value).all (·.oneCell') = true := by
  refine all_oneCell_toArray ?_
  simp only [List.forall_mem_cons]
  exact ⟨rfl, rfl, rfl, rfl, rfl, rfl, rfl, rfl, rfl, rfl, rfl, rfl, rfl, rfl, rfl, rfl, rfl, rfl, rfl, rfl, rfl, rfl, rfl, rfl, rfl, rfl, rfl, rfl, fun v hv => by cases hv⟩
set_option maxHeartbeats 16000000 in
set_option maxRecDepth 20000 in
/-- The walk, by what the callees answer. -/
theorem lh_walk (s q : Nat) (oa : Option Addr) (n ca : Nat) (ob : Option Addr) (nb cb : Nat) (oc : Option Addr) (m cm be ga : Nat) (f g h : Nat → Nat) (hs : s < 2) (hq : 3 ≤ q ∧ q ≤ 5) (hn : n ≤ 100 ∧ nb ≤ 100) (hm : m ≤ 4398046510976) (hf : ∀ i, i < n → f i < 115792089237316195423570985008687907853269984665640564039457584007913129639936) (hgM : ∀ i, i < nb → g i < 115792089237316195423570985008687907853269984665640564039457584007913129639936) (hh : ∀ i, i < m → h i < 115792089237316195423570985008687907853269984665640564039457584007913129639936) (hnq : n = 2 ^ q - 4) (hnb : nb = n) (Sv Mv Zf pt : Nat → Nat) (B : Nat → Nat) (hSM : ∀ i, i < n → Sv i < 115792089237316195423570985008687907853269984665640564039457584007913129639936) (hMM : ∀ i, i < n → Mv i < 115792089237316195423570985008687907853269984665640564039457584007913129639936) (hZM : ∀ i, i < n + 4 → Zf i < 115792089237316195423570985008687907853269984665640564039457584007913129639936) (hpM : ∀ r, pt r < 115792089237316195423570985008687907853269984665640564039457584007913129639936)
    (hper : ∀ (oa ob : Option Addr) (ca cb : Nat) (w : World), Glob w → Es w (.slice oa n ca) n f → Es w (.slice ob nb cb) nb g → Calls Tryz.prog 5 #[.int .i64 (s : Int), .slice oa n ca, .slice ob nb cb] w fun e w' => (∃ A H, e = .returned (.tuple #[.slice (some ⟨A, 0, none⟩) n n, .slice (some ⟨H, 0, none⟩) n n, .int .i64 0]) ∧ w.heap.size ≤ A ∧ w.heap.size ≤ H ∧ BlkE w' A n Sv ∧ BlkE w' H n Mv) ∧ Below w.heap.size w w')
    (hpr : ∀ (oa ob oc od : Option Addr) (ca cb cc cd b : Nat) (w : World), Glob w → 3 ≤ b → Es w (.slice oa n ca) n f → Es w (.slice ob n cb) n g → Es w (.slice oc n cc) n Sv → Es w (.slice od n cd) n Mv → PurseS w w.heap.size b m h → Calls Tryz.prog 8 #[.int .i64 (s : Int), .int .i64 (q : Int), .slice oa n ca, .slice ob n cb, .slice oc n cc, .slice od n cd, .agg #[.int .u64 ((limb 0 (be) : Nat) : Int), .int .u64 ((limb 1 (be) : Nat) : Int), .int .u64 ((limb 2 (be) : Nat) : Int), .int .u64 ((limb 3 (be) : Nat) : Int)], .agg #[.int .u64 ((limb 0 (ga) : Nat) : Int), .int .u64 ((limb 1 (ga) : Nat) : Int), .int .u64 ((limb 2 (ga) : Nat) : Int), .int .u64 ((limb 3 (ga) : Nat) : Int)], .pointer (some ⟨b, 0, none⟩)] w fun e w' => PdE n B Zf e w' ∧ KU w.heap.size b w w')
    (hpts : ∀ w, GlobD w → Calls Tryz.prog 9 #[.int .i64 (s : Int), .int .i64 (q : Int)] w fun e w' => (∃ g, e = .returned (.tuple #[.slice (some ⟨g, 0, none⟩) (2 ^ q) (2 ^ q), .int .i64 0]) ∧ w.heap.size ≤ g ∧ BlkE w' g (2 ^ q) pt) ∧ Below w.heap.size w w')
    (hplc : ∀ r, r < 2 ^ q → ∃ y0, ∀ w, GlobD w → Calls Tryz.prog 10 #[.int .i64 (s : Int), .int .i64 (q : Int), .agg #[.int .u64 ((limb 0 (pt r) : Nat) : Int), .int .u64 ((limb 1 (pt r) : Nat) : Int), .int .u64 ((limb 2 (pt r) : Nat) : Int), .int .u64 ((limb 3 (pt r) : Nat) : Int)]] w fun e w' => e = .returned (.tuple #[.agg #[.int .u64 ((limb 0 y0 : Nat) : Int), .int .u64 ((limb 1 y0 : Nat) : Int), .int .u64 ((limb 2 y0 : Nat) : Int), .int .u64 ((limb 3 y0 : Nat) : Int), .int .u64 ((limb 0 (if 0 = r then 1 else 0) : Nat) : Int), .int .u64 ((limb 1 (if 0 = r then 1 else 0) : Nat) : Int), .int .u64 ((limb 2 (if 0 = r then 1 else 0) : Nat) : Int), .int .u64 ((limb 3 (if 0 = r then 1 else 0) : Nat) : Int), .int .u64 ((limb 0 (if n = r then 1 else 0) : Nat) : Int), .int .u64 ((limb 1 (if n = r then 1 else 0) : Nat) : Int), .int .u64 ((limb 2 (if n = r then 1 else 0) : Nat) : Int), .int .u64 ((limb 3 (if n = r then 1 else 0) : Nat) : Int), .int .u64 ((limb 0 (if r < n then 1 else 0) : Nat) : Int), .int .u64 ((limb 1 (if r < n then 1 else 0) : Nat) : Int), .int .u64 ((limb 2 (if r < n then 1 else 0) : Nat) : Int), .int .u64 ((limb 3 (if r < n then 1 else 0) : Nat) : Int)], .int .i64 0]) ∧ Below w.heap.size w w')
    (hz1 : (∀ i, i < n → B i ≠ 0) → Zf n = 1)
    (hchk : (∀ i, i < n → B i ≠ 0) → ∀ r, r < 2 ^ q → ∀ y0 w, Glob w → Calls Tryz.prog 12 #[.int .i64 (s : Int), .agg #[.int .u64 ((limb 0 y0 : Nat) : Int), .int .u64 ((limb 1 y0 : Nat) : Int), .int .u64 ((limb 2 y0 : Nat) : Int), .int .u64 ((limb 3 y0 : Nat) : Int), .int .u64 ((limb 0 (if 0 = r then 1 else 0) : Nat) : Int), .int .u64 ((limb 1 (if 0 = r then 1 else 0) : Nat) : Int), .int .u64 ((limb 2 (if 0 = r then 1 else 0) : Nat) : Int), .int .u64 ((limb 3 (if 0 = r then 1 else 0) : Nat) : Int), .int .u64 ((limb 0 (if n = r then 1 else 0) : Nat) : Int), .int .u64 ((limb 1 (if n = r then 1 else 0) : Nat) : Int), .int .u64 ((limb 2 (if n = r then 1 else 0) : Nat) : Int), .int .u64 ((limb 3 (if n = r then 1 else 0) : Nat) : Int), .int .u64 ((limb 0 (if r < n then 1 else 0) : Nat) : Int), .int .u64 ((limb 1 (if r < n then 1 else 0) : Nat) : Int), .int .u64 ((limb 2 (if r < n then 1 else 0) : Nat) : Int), .int .u64 ((limb 3 (if r < n then 1 else 0) : Nat) : Int)], .agg #[.int .u64 ((limb 0 (atF s n f r) : Nat) : Int), .int .u64 ((limb 1 (atF s n f r) : Nat) : Int), .int .u64 ((limb 2 (atF s n f r) : Nat) : Int), .int .u64 ((limb 3 (atF s n f r) : Nat) : Int), .int .u64 ((limb 0 (atF s n g r) : Nat) : Int), .int .u64 ((limb 1 (atF s n g r) : Nat) : Int), .int .u64 ((limb 2 (atF s n g r) : Nat) : Int), .int .u64 ((limb 3 (atF s n g r) : Nat) : Int), .int .u64 ((limb 0 (atF s n Sv r) : Nat) : Int), .int .u64 ((limb 1 (atF s n Sv r) : Nat) : Int), .int .u64 ((limb 2 (atF s n Sv r) : Nat) : Int), .int .u64 ((limb 3 (atF s n Sv r) : Nat) : Int), .int .u64 ((limb 0 (atF s n Sv ((r + 2 ^ q - 1) % 2 ^ q)) : Nat) : Int), .int .u64 ((limb 1 (atF s n Sv ((r + 2 ^ q - 1) % 2 ^ q)) : Nat) : Int), .int .u64 ((limb 2 (atF s n Sv ((r + 2 ^ q - 1) % 2 ^ q)) : Nat) : Int), .int .u64 ((limb 3 (atF s n Sv ((r + 2 ^ q - 1) % 2 ^ q)) : Nat) : Int), .int .u64 ((limb 0 (atF s n Mv r) : Nat) : Int), .int .u64 ((limb 1 (atF s n Mv r) : Nat) : Int), .int .u64 ((limb 2 (atF s n Mv r) : Nat) : Int), .int .u64 ((limb 3 (atF s n Mv r) : Nat) : Int), .int .u64 ((limb 0 (Zf r) : Nat) : Int), .int .u64 ((limb 1 (Zf r) : Nat) : Int), .int .u64 ((limb 2 (Zf r) : Nat) : Int), .int .u64 ((limb 3 (Zf r) : Nat) : Int), .int .u64 ((limb 0 (Zf ((r + 1) % 2 ^ q)) : Nat) : Int), .int .u64 ((limb 1 (Zf ((r + 1) % 2 ^ q)) : Nat) : Int), .int .u64 ((limb 2 (Zf ((r + 1) % 2 ^ q)) : Nat) : Int), .int .u64 ((limb 3 (Zf ((r + 1) % 2 ^ q)) : Nat) : Int)], .agg #[.int .u64 ((limb 0 (be) : Nat) : Int), .int .u64 ((limb 1 (be) : Nat) : Int), .int .u64 ((limb 2 (be) : Nat) : Int), .int .u64 ((limb 3 (be) : Nat) : Int)], .agg #[.int .u64 ((limb 0 (ga) : Nat) : Int), .int .u64 ((limb 1 (ga) : Nat) : Int), .int .u64 ((limb 2 (ga) : Nat) : Int), .int .u64 ((limb 3 (ga) : Nat) : Int)]] w fun e w' => (∃ N, e = .returned (.slice (some ⟨N, 0, none⟩) 5 5) ∧ w.heap.size ≤ N ∧ BlkE w' N 5 (fun _ => 0)) ∧ Below w.heap.size w w')
    (w : World) (hg : GlobD w) (e1 : Es w (.slice oa n ca) n f) (e2 : Es w (.slice ob nb cb) nb g) (e3 : Es w (.slice oc m cm) m h) :
    Calls Tryz.prog 3 #[.int .i64 (s : Int), .int .i64 (q : Int), .slice oa n ca, .slice ob nb cb, .agg #[.int .u64 ((limb 0 (be) : Nat) : Int), .int .u64 ((limb 1 (be) : Nat) : Int), .int .u64 ((limb 2 (be) : Nat) : Int), .int .u64 ((limb 3 (be) : Nat) : Int)], .agg #[.int .u64 ((limb 0 (ga) : Nat) : Int), .int .u64 ((limb 1 (ga) : Nat) : Int), .int .u64 ((limb 2 (ga) : Nat) : Int), .int .u64 ((limb 3 (ga) : Nat) : Int)], .slice oc m cm] w fun e w' => e = .returned (.bool true) ∧ Below w.heap.size w w' := by
  have hnb' := hnb.symm
  subst hnb'
  have HG : Hid (GlobD w) := hg
  have HAL : Hid (∀ w, Glob w → _) := fun w hg => alive17_any w hg
  have HE : Hid (Es w (.slice oa n ca) n f ∧ Es w (.slice ob n cb) n g ∧ Es w (.slice oc m cm) m h) := ⟨e1, e2, e3⟩
  have HM : Hid ((∀ i, i < n → f i < 115792089237316195423570985008687907853269984665640564039457584007913129639936) ∧ (∀ i, i < n → g i < 115792089237316195423570985008687907853269984665640564039457584007913129639936) ∧ n ≤ 100 ∧ n ≤ 100 ∧ m ≤ 4398046510976 ∧ ∀ i, i < m → h i < 115792089237316195423570985008687907853269984665640564039457584007913129639936) := ⟨hf, hgM, hn.1, hn.2, hm, hh⟩
  have HP : Hid (∀ (oa ob : Option Addr) (ca cb : Nat) (w : World), Glob w → _) := hper
  have HR : Hid (∀ (oa ob oc od : Option Addr) (ca cb cc cd b : Nat) (w : World), Glob w → _) := hpr
  have HPT : Hid (∀ w, GlobD w → _) := hpts
  have HPL : Hid (∀ r, r < 2 ^ q → _) := hplc
  have HZ1 : Hid ((∀ i, i < n → B i ≠ 0) → Zf n = 1) := hz1
  have HCK : Hid ((∀ i, i < n → B i ≠ 0) → _) := hchk
  have HMM : Hid ((∀ i, i < n → Sv i < 115792089237316195423570985008687907853269984665640564039457584007913129639936) ∧ (∀ i, i < n → Mv i < 115792089237316195423570985008687907853269984665640564039457584007913129639936) ∧ (∀ i, i < n + 4 → Zf i < 115792089237316195423570985008687907853269984665640564039457584007913129639936) ∧ (∀ r, pt r < 115792089237316195423570985008687907853269984665640564039457584007913129639936) ∧ s < 4) := ⟨hSM, hMM, hZM, hpM, by omega⟩
  have hk0 : ¬ (q : Int) < 0 := by omega
  have hP8 : 8 ≤ 2 ^ q ∧ 2 ^ q ≤ 32 := ⟨Nat.pow_le_pow_right (n := 2) (by decide) hq.1, Nat.pow_le_pow_right (n := 2) (by decide) hq.2⟩
  obtain ⟨P, eP⟩ : ∃ P, P = 2 ^ q := ⟨_, rfl⟩
  rw [← eP] at hP8
  have e1 : (2 : Int) ^ q = ((P : Nat) : Int) := by rw [eP]; simp
  have hkw : IntKind.i64.wrap ((2 : Int) ^ q) = (P : Int) := by rw [e1]; exact wrap_i64_nat P (by omega)
  have hPw : IntKind.i64.wrap (P : Int) = (P : Int) := wrap_i64_nat P (by omega)
  have hcv : IntKind.u64.wrap (q : Int) = (q : Int) := by rw [IntKind.wrap_u64]; omega
  have hmin : min q 64 = q := by omega
  obtain ⟨u, eu⟩ : ∃ u, u = P - 4 := ⟨_, rfl⟩
  have hu4 : IntKind.i64.wrap ((P : Int) - 4) = (u : Int) := by rw [show (P : Int) - 4 = (u : Int) by omega]; exact wrap_i64_nat u (by omega)
  have HPU : Hid (P = 2 ^ q ∧ u = P - 4 ∧ 8 ≤ P ∧ P ≤ 32) := ⟨eP, eu, hP8.1, hP8.2⟩
  have i0 : ¬ (s : Int) < 0 := by omega
  have i1 : ¬ (1 : Int) < (s : Int) := by omega
  have i2 : ¬ (q : Int) < 3 := by omega
  have i3 : ¬ (5 : Int) < (q : Int) := by omega
  have i4 : ¬ (100 : Int) < (n : Int) := by omega
  have i5 : ¬ (100 : Int) < (n : Int) := by omega
  have hun : u = n := by omega
  subst hun
  have HPN : Hid (P = u + 4) := by show P = _; omega
  clear hg e1 e2 e3 hf hgM hh hm hn hs hq hper hpr hpts hplc hz1 hchk hSM hMM hZM hpM eP eu hP8 hnq hnb
  go_enter Tryz.func3, Tryz.ntmps3
  go_wp2_with fail
  have hs1 : (w.alloc (.cells #[.int .u64 ((limb 0 (be) : Nat) : Int), .int .u64 ((limb 1 (be) : Nat) : Int), .int .u64 ((limb 2 (be) : Nat) : Int), .int .u64 ((limb 3 (be) : Nat) : Int)] 25)).heap.size = w.heap.size + 1 := Array.size_push ..
  obtain ⟨N11, e0⟩ : ∃ z, z = w.heap.size := ⟨_, rfl⟩
  obtain ⟨N12, e1⟩ : ∃ z, z = N11 + 1 := ⟨_, rfl⟩
  obtain ⟨w1, hw1⟩ : ∃ z : World, z = (w.alloc (.cells #[.int .u64 ((limb 0 (be) : Nat) : Int), .int .u64 ((limb 1 (be) : Nat) : Int), .int .u64 ((limb 2 (be) : Nat) : Int), .int .u64 ((limb 3 (be) : Nat) : Int)] 25)).alloc (.cells #[.int .u64 ((limb 0 (ga) : Nat) : Int), .int .u64 ((limb 1 (ga) : Nat) : Int), .int .u64 ((limb 2 (ga) : Nat) : Int), .int .u64 ((limb 3 (ga) : Nat) : Int)] 25) := ⟨_, rfl⟩
  have b11 : Blk w1 25 N11 (fun i => limb i be) := by rw [hw1]; exact (Blk.newAt _ _ _ (fun i => limb i be) e0).alloc _
  have b12 : Blk w1 25 N12 (fun i => limb i ga) := by rw [hw1]; exact Blk.newAt _ _ _ (fun i => limb i ga) (by rw [e1, e0, hs1])
  have hb1 : Below w.heap.size w w1 := by rw [hw1]; exact bAlloc (bAlloc (Below.refl _ _) _) _
  rw [← hw1]
  try rw [← e0]
  try rw [← e1]
  have l11 : w.heap.size ≤ N11 := by omega
  have l12 : w.heap.size ≤ N12 := by omega
  have n11_12 : N11 ≠ N12 := by omega
  clear hw1 e0 e1 hs1
  have HG1 : Hid (GlobD w1) := HG.out.below hb1
  refine (HAL.out w1 HG1.out.1).mono ?_
  rintro e w2 ⟨rfl, hbx⟩
  have hb2 := bStep hb1 hbx
  have c11 := b11.belowAll hbx; have c12 := b12.belowAll hbx
  clear b11 b12 hb1 hbx HAL HG1
  go_wp2_with fail
  refine (copyB_any u _ f (by have := HM.out.2.2.1; omega) w2 (HE.out.1.below hb2)).mono ?_
  rintro e w3 ⟨va, rfl, oa', hb⟩
  obtain ⟨oa3, ca3, rfl⟩ := (own_Es oa').shape
  have ea := own_Es oa'
  have hb3 := bStep hb2 hb
  have d11 := c11.belowAll hb; have d12 := c12.belowAll hb
  clear oa' hb c11 c12 hb2
  go_wp2_with fail
  refine (copyB_any u _ g (by have := HM.out.2.2.2.1; omega) w3 (HE.out.2.1.below hb3)).mono ?_
  rintro e w4 ⟨vb, rfl, ob', hb⟩
  obtain ⟨ob4, cb4, rfl⟩ := (own_Es ob').shape
  have eb := own_Es ob'
  have ea4 := ea.below hb
  have hb4 := bStep hb3 hb
  have c11 := d11.belowAll hb; have c12 := d12.belowAll hb
  clear ob' hb d11 d12 hb3 ea
  go_wp2_with fail
  refine (HP.out oa3 ob4 ca3 cb4 w4 (HG.out.below hb4).1 ea4 eb).mono ?_
  rintro e w5 ⟨⟨A, H, rfl, lA, lH, bA, bH⟩, hb⟩
  have hb5 := bStep hb4 hb
  have d11 := c11.belowAll hb; have d12 := c12.belowAll hb
  have HBA : Hid (BlkE w5 A u Sv ∧ BlkE w5 H u Mv) := ⟨bA, bH⟩
  clear hb hb4 ea4 eb c11 c12 bA bH lA lH
  go_wp2_with fail
  refine (copyB_any m _ h HM.out.2.2.2.2.1 w5 (HE.out.2.2.below hb5)).mono ?_
  rintro e w6 ⟨vc, rfl, oc', hb⟩
  obtain ⟨oc6, cc6, rfl⟩ := (own_Es oc').shape
  have ec := own_Es oc'
  have hb6 := bStep hb5 hb
  have c11 := d11.belowAll hb; have c12 := d12.belowAll hb
  have HBA6 : Hid (BlkE w6 A u Sv ∧ BlkE w6 H u Mv) := ⟨HBA.out.1.belowAll hb, HBA.out.2.belowAll hb⟩
  clear oc' hb d11 d12 hb5 HBA
  go_wp2_with fail
  refine (purse_any m _ h HM.out.2.2.2.2.1 w6 ec).mono ?_
  rintro e w7 ⟨⟨b, m', cm', om, rfl, lb, em', hone, hpe, hpn⟩, hb⟩
  rw [em'] at hone hpe
  clear em'
  have HPU7 : Hid (PurseS w7 w7.heap.size b m h) := ⟨om, cm', hone, hpe, hone.lt, fun g o e => ⟨(hpn.out g o e).2, by
    rcases hpe with ⟨h, _⟩ | ⟨b2, o2, c2, hv, _, _, hl, _⟩
    · rw [e] at h; cases h
    · rw [e] at hv; cases hv; exact hl⟩⟩
  have b11 := c11.belowAll hb; have b12 := c12.belowAll hb
  have HBA7 : Hid (BlkE w7 A u Sv ∧ BlkE w7 H u Mv) := ⟨HBA6.out.1.belowAll hb, HBA6.out.2.belowAll hb⟩
  have HNB : Hid (N11 ≠ b ∧ N12 ≠ b ∧ A ≠ b ∧ H ≠ b ∧ w.heap.size ≤ b ∧ 3 ≤ b) := by
    have x1 := c11.lt; have x2 := c12.lt; have x3 := HBA6.out.1.lt; have x4 := HBA6.out.2.lt; have x5 := hb6.size; have x6 := HG.out.ge
    show _ ∧ _
    omega
  have hb7 := bStep hb6 hb
  have HB7 : Hid (Below w.heap.size w w7) := hb7
  clear hone hpe hpn lb hb c11 c12 ec hb6 HBA6 hb7
  have HG7 : Hid (GlobD w7) := HG.out.below HB7.out
  have g11 := b11.cell; have g12 := b12.cell
  have G11 : Rd4 w7 N11 0 be := ⟨g11 0 (by decide), g11 1 (by decide), g11 2 (by decide), g11 3 (by decide)⟩
  have G12 : Rd4 w7 N12 0 ga := ⟨g12 0 (by decide), g12 1 (by decide), g12 2 (by decide), g12 3 (by decide)⟩
  have l11 := b11.lt; have l12 := b12.lt
  clear g11 g12
  go_upto_region 11 with fail
  refine wp_region_Z (fun w' => Rd4 w' N11 0 be ∧ Rd4 w' N12 0 ga) 99 (by kernel_rfl) ?_
  obtain ⟨wD, hD⟩ : ∃ z : World, z = w7.drew := ⟨_, rfl⟩
  rw [← hD]
  have lowD : Below w7.heap.size w7 wD := by rw [hD]; exact (Below.refl _ _).drew
  clear hD
  have HS0 : Rd4 wD N11 0 be ∧ Rd4 wD N12 0 ga := ⟨G11.below lowD l11, G12.below lowD l12⟩
  refine wpZ_take (i := 0) (v := .int .i64 (s : Int)) 84 rfl rfl (by kernel_rfl) (by kernel_rfl) (by kernel_rfl) (Or.inr (by decide)) (fun _ _ _ h => h) (Or.inl ⟨by rfl, fun w hSw => by go_simp⟩) HS0 ?_
  simp only [Act.put, List.setIfInBounds_toArray]
  try dsimp only [List.set_cons_zero, List.set_cons_succ]
  refine wpZ_take (i := 1) (v := .int .i64 (q : Int)) 85 rfl rfl (by kernel_rfl) (by kernel_rfl) (by kernel_rfl) (Or.inr (by decide)) (fun _ _ _ h => h) (Or.inl ⟨by rfl, fun w hSw => by go_simp⟩) HS0 ?_
  simp only [Act.put, List.setIfInBounds_toArray]
  try dsimp only [List.set_cons_zero, List.set_cons_succ]
  refine wpZ_take (i := 2) (v := .slice oa u ca) 86 rfl rfl (by kernel_rfl) (by kernel_rfl) (by kernel_rfl) (Or.inr (by decide)) (fun _ _ _ h => h) (Or.inl ⟨by rfl, fun w hSw => by go_simp⟩) HS0 ?_
  simp only [Act.put, List.setIfInBounds_toArray]
  try dsimp only [List.set_cons_zero, List.set_cons_succ]
  refine wpZ_take (i := 4) (v := .slice ob u cb) 88 rfl rfl (by kernel_rfl) (by kernel_rfl) (by kernel_rfl) (Or.inr (by decide)) (fun _ _ _ h => h) (Or.inl ⟨by rfl, fun w hSw => by go_simp⟩) HS0 ?_
  simp only [Act.put, List.setIfInBounds_toArray]
  try dsimp only [List.set_cons_zero, List.set_cons_succ]
  refine wpZ_take (i := 6) (v := .slice (some ⟨A, 0, none⟩) u u) 90 rfl rfl (by kernel_rfl) (by kernel_rfl) (by kernel_rfl) (Or.inr (by decide)) (fun _ _ _ h => h) (Or.inl ⟨by rfl, fun w hSw => by go_simp⟩) HS0 ?_
  simp only [Act.put, List.setIfInBounds_toArray]
  try dsimp only [List.set_cons_zero, List.set_cons_succ]
  refine wpZ_take (i := 7) (v := .slice (some ⟨H, 0, none⟩) u u) 91 rfl rfl (by kernel_rfl) (by kernel_rfl) (by kernel_rfl) (Or.inr (by decide)) (fun _ _ _ h => h) (Or.inl ⟨by rfl, fun w hSw => by go_simp⟩) HS0 ?_
  simp only [Act.put, List.setIfInBounds_toArray]
  try dsimp only [List.set_cons_zero, List.set_cons_succ]
  refine wpZ_take (i := 8) (v := .agg #[.int .u64 ((limb 0 (be) : Nat) : Int), .int .u64 ((limb 1 (be) : Nat) : Int), .int .u64 ((limb 2 (be) : Nat) : Int), .int .u64 ((limb 3 (be) : Nat) : Int)]) 92 rfl rfl (by kernel_rfl) (by kernel_rfl) (by kernel_rfl) (Or.inr (by decide)) (fun _ _ _ h => h) (Or.inl ⟨by rfl, fun w hSw => by (obtain ⟨q0, q1, q2, q3⟩ : w.cell? ⟨N11, 0, none⟩ = _ ∧ w.cell? ⟨N11, 1, none⟩ = _ ∧ w.cell? ⟨N11, 2, none⟩ = _ ∧ w.cell? ⟨N11, 3, none⟩ = _ := hSw.1; clear hSw; go_simp)⟩) HS0 ?_
  simp only [Act.put, List.setIfInBounds_toArray]
  try dsimp only [List.set_cons_zero, List.set_cons_succ]
  refine wpZ_take (i := 9) (v := .agg #[.int .u64 ((limb 0 (ga) : Nat) : Int), .int .u64 ((limb 1 (ga) : Nat) : Int), .int .u64 ((limb 2 (ga) : Nat) : Int), .int .u64 ((limb 3 (ga) : Nat) : Int)]) 93 rfl rfl (by kernel_rfl) (by kernel_rfl) (by kernel_rfl) (Or.inr (by decide)) (fun _ _ _ h => h) (Or.inl ⟨by rfl, fun w hSw => by (obtain ⟨q0, q1, q2, q3⟩ : w.cell? ⟨N12, 0, none⟩ = _ ∧ w.cell? ⟨N12, 1, none⟩ = _ ∧ w.cell? ⟨N12, 2, none⟩ = _ ∧ w.cell? ⟨N12, 3, none⟩ = _ := hSw.2; clear hSw; go_simp)⟩) HS0 ?_
  simp only [Act.put, List.setIfInBounds_toArray]
  try dsimp only [List.set_cons_zero, List.set_cons_succ]
  refine wpZ_take (i := 10) (v := .pointer (some ⟨b, 0, none⟩)) 94 rfl rfl (by kernel_rfl) (by kernel_rfl) (by kernel_rfl) (Or.inr (by decide)) (fun _ _ _ h => h) (Or.inl ⟨by rfl, fun w hSw => by go_simp⟩) HS0 ?_
  simp only [Act.put, List.setIfInBounds_toArray]
  try dsimp only [List.set_cons_zero, List.set_cons_succ]
  refine wpZ_one (i := 3) (by kernel_rfl) rfl (fun K hK => ?_)
  go_simp
  refine (copyB_any u _ f (by have := HM.out.2.2.1; omega) wD (HE.out.1.below (bStep HB7.out lowD))).mono ?_
  rintro e wE1 ⟨va9, rfl, oa9, hbx1⟩
  have lowwE1 := bStep lowD hbx1
  have SwE1 : Rd4 wE1 N11 0 be ∧ Rd4 wE1 N12 0 ga := ⟨G11.below lowwE1 l11, G12.below lowwE1 l12⟩
  obtain ⟨oa8, ca8, rfl⟩ := (own_Es oa9).shape
  have ea8 := own_Es oa9
  clear oa9
  go_wp2_with fail
  refine hK.out _ _ (fun _ => SwE1) ?_
  clear hK K hbx1
  refine wpZ_one (i := 5) (by kernel_rfl) rfl (fun K hK => ?_)
  go_simp
  refine (copyB_any u _ g (by have := HM.out.2.2.1; omega) wE1 (HE.out.2.1.below (bStep HB7.out lowwE1))).mono ?_
  rintro e wE2 ⟨vb9, rfl, ob9, hbx2⟩
  have lowwE2 := bStep lowwE1 hbx2
  have SwE2 : Rd4 wE2 N11 0 be ∧ Rd4 wE2 N12 0 ga := ⟨G11.below lowwE2 l11, G12.below lowwE2 l12⟩
  obtain ⟨ob8, cb8, rfl⟩ := (own_Es ob9).shape
  have eb8 := own_Es ob9
  have ea9 := ea8.below hbx2
  clear ob9 ea8
  go_wp2_with fail
  refine hK.out _ _ (fun _ => SwE2) ?_
  clear hK K hbx2
  refine wpZ_one (i := 11) (by kernel_rfl) rfl (fun K hK => ?_)
  go_simp
  refine (HR.out oa8 ob8 (some ⟨A, 0, none⟩) (some ⟨H, 0, none⟩) ca8 cb8 u u b wE2 (HG7.out.below lowwE2).1 HNB.out.2.2.2.2.2 ea9 eb8 ((HBA7.out.1.belowAll lowwE2).Es (by have := HPU.out; unfold maxLen; omega)) ((HBA7.out.2.belowAll lowwE2).Es (by have := HPU.out; unfold maxLen; omega)) (HPU7.out.step lowwE2)).mono ?_
  rintro e wP ⟨hpd, hku⟩
  have hkk := hku.toKept
  have lowP := lowwE2
  have SP : Rd4 wP N11 0 be ∧ Rd4 wP N12 0 ga := ⟨Rd4.kept SwE2.1 (Nat.lt_of_lt_of_le l11 lowP.size) HNB.out.1 hkk, Rd4.kept SwE2.2 (Nat.lt_of_lt_of_le l12 lowP.size) HNB.out.2.1 hkk⟩
  have HAP : Hid (BlkE wP A u Sv ∧ BlkE wP H u Mv) := ⟨(HBA7.out.1.belowAll lowP).kept HNB.out.2.2.1 hkk, (HBA7.out.2.belowAll lowP).kept HNB.out.2.2.2.1 hkk⟩
  have hbP := bKept (bStep HB7.out lowP) HNB.out.2.2.2.2.1 hkk
  have l11P : N11 < wP.heap.size := Nat.lt_of_lt_of_le (Nat.lt_of_lt_of_le l11 lowP.size) hkk.size
  have l12P : N12 < wP.heap.size := Nat.lt_of_lt_of_le (Nat.lt_of_lt_of_le l12 lowP.size) hkk.size
  have HBP : Hid (Below w.heap.size w wP) := hbP
  clear hku hkk lowP hbP ea9 eb8
  rcases hpd with ⟨v, er, rfl, her⟩ | ⟨hnz, z, rfl, ez⟩
  · go_wp2_with fail
    refine hK.out _ _ (fun _ => SP) ?_
    clear hK K
    refine wpZ_take (i := 12) (v := .tuple #[v, .int .i64 er]) 83 rfl rfl (by kernel_rfl) (by kernel_rfl) (by kernel_rfl) (Or.inr (by decide)) (fun _ _ _ h => h) (Or.inl ⟨by rfl, fun w hSw => by go_simp⟩) SP ?_
    simp only [Act.put, List.setIfInBounds_toArray]
    try dsimp only [List.set_cons_zero, List.set_cons_succ]
    refine wpZ_take (i := 13) (v := v) 96 rfl rfl (by kernel_rfl) (by kernel_rfl) (by kernel_rfl) (Or.inr (by decide)) (fun _ _ _ h => h) (Or.inl ⟨by rfl, fun w hSw => by go_simp⟩) SP ?_
    simp only [Act.put, List.setIfInBounds_toArray]
    try dsimp only [List.set_cons_zero, List.set_cons_succ]
    refine wpZ_take (i := 14) (v := .int .i64 er) 97 rfl rfl (by kernel_rfl) (by kernel_rfl) (by kernel_rfl) (Or.inr (by decide)) (fun _ _ _ h => h) (Or.inl ⟨by rfl, fun w hSw => by go_simp⟩) SP ?_
    simp only [Act.put, List.setIfInBounds_toArray]
    try dsimp only [List.set_cons_zero, List.set_cons_succ]
    refine wpZ_take (i := 15) (v := v) 21 rfl rfl (by kernel_rfl) (by kernel_rfl) (by kernel_rfl) (Or.inr (by decide)) (fun _ _ _ h => h) (Or.inl ⟨by rfl, fun w hSw => by go_simp⟩) SP ?_
    simp only [Act.put, List.setIfInBounds_toArray]
    try dsimp only [List.set_cons_zero, List.set_cons_succ]
    refine wpZ_take (i := 16) (v := .int .i64 er) 19 rfl rfl (by kernel_rfl) (by kernel_rfl) (by kernel_rfl) (Or.inr (by decide)) (fun _ _ _ h => h) (Or.inl ⟨by rfl, fun w hSw => by go_simp⟩) SP ?_
    simp only [Act.put, List.setIfInBounds_toArray]
    try dsimp only [List.set_cons_zero, List.set_cons_succ]
    refine wpZ_done (by kernel_rfl) ?_ _
    have hbf := HBP.out
    rcases her with rfl | rfl
    · go_wp2
      go_ret
      exact ⟨rfl, hbf⟩
    · go_wp2
      go_ret
      exact ⟨rfl, hbf⟩
  have ez : Es wP z P Zf := by rw [HPN.out]; exact ez
  obtain ⟨oz, cz, rfl⟩ := ez.shape
  go_wp2_with fail
  refine hK.out _ _ (fun _ => SP) ?_
  clear hK K
  refine wpZ_take (i := 12) (v := .tuple #[.slice oz P cz, .int .i64 0]) 83 rfl rfl (by kernel_rfl) (by kernel_rfl) (by kernel_rfl) (Or.inr (by decide)) (fun _ _ _ h => h) (Or.inl ⟨by rfl, fun w hSw => by go_simp⟩) SP ?_
  simp only [Act.put, List.setIfInBounds_toArray]
  try dsimp only [List.set_cons_zero, List.set_cons_succ]
  refine wpZ_take (i := 13) (v := .slice oz P cz) 96 rfl rfl (by kernel_rfl) (by kernel_rfl) (by kernel_rfl) (Or.inr (by decide)) (fun _ _ _ h => h) (Or.inl ⟨by rfl, fun w hSw => by go_simp⟩) SP ?_
  simp only [Act.put, List.setIfInBounds_toArray]
  try dsimp only [List.set_cons_zero, List.set_cons_succ]
  refine wpZ_take (i := 14) (v := .int .i64 0) 97 rfl rfl (by kernel_rfl) (by kernel_rfl) (by kernel_rfl) (Or.inr (by decide)) (fun _ _ _ h => h) (Or.inl ⟨by rfl, fun w hSw => by go_simp⟩) SP ?_
  simp only [Act.put, List.setIfInBounds_toArray]
  try dsimp only [List.set_cons_zero, List.set_cons_succ]
  refine wpZ_take (i := 15) (v := .slice oz P cz) 21 rfl rfl (by kernel_rfl) (by kernel_rfl) (by kernel_rfl) (Or.inr (by decide)) (fun _ _ _ h => h) (Or.inl ⟨by rfl, fun w hSw => by go_simp⟩) SP ?_
  simp only [Act.put, List.setIfInBounds_toArray]
  try dsimp only [List.set_cons_zero, List.set_cons_succ]
  refine wpZ_take (i := 16) (v := .int .i64 0) 19 rfl rfl (by kernel_rfl) (by kernel_rfl) (by kernel_rfl) (Or.inr (by decide)) (fun _ _ _ h => h) (Or.inl ⟨by rfl, fun w hSw => by go_simp⟩) SP ?_
  simp only [Act.put, List.setIfInBounds_toArray]
  try dsimp only [List.set_cons_zero, List.set_cons_succ]
  refine wpZ_done (by kernel_rfl) ?_ _
  have HNZ : Hid (∀ i, i < u → B i ≠ 0) := hnz
  have hG11 := SP.1; have hG12 := SP.2
  clear hnz SP
  obtain ⟨wZ, hwZ⟩ : ∃ z : World, z = wP.alloc (.cells #[.int .u64 0, .int .u64 0, .int .u64 0, .int .u64 0] 25) := ⟨_, rfl⟩
  obtain ⟨N22, e22⟩ : ∃ z, z = wP.heap.size := ⟨_, rfl⟩
  have b22 : Blk wZ 25 N22 (fun _ => 0) := by rw [hwZ]; exact Blk.newAt _ _ _ (fun _ => 0) e22
  have hbn : Below wP.heap.size wP wZ := by rw [hwZ]; exact bAlloc (Below.refl _ _) _
  have hbZ := bStep HBP.out hbn
  have ezZ := ez.below hbn
  have gZ11 := hG11.below hbn l11P; have gZ12 := hG12.below hbn l12P
  have lZ11 : N11 < wZ.heap.size := Nat.lt_of_lt_of_le l11P hbn.size
  have lZ12 : N12 < wZ.heap.size := Nat.lt_of_lt_of_le l12P hbn.size
  have HAZ : Hid (BlkE wZ A u Sv ∧ BlkE wZ H u Mv) := ⟨HAP.out.1.belowAll hbn, HAP.out.2.belowAll hbn⟩
  go_upto_region 15 with fail
  rw [← hwZ]
  try rw [← e22]
  clear hwZ e22 hbn ez hG11 hG12 l11P l12P HAP HBP
  go_wp2_with fail
  refine (HPT.out wZ (HG.out.below hbZ)).mono ?_
  rintro e wL ⟨⟨pg, rfl, lpg, bpg⟩, hb⟩
  rw [← HPU.out.1] at bpg ⊢
  have hbL := bStep hbZ hb
  have HZL : Hid (Es wL (.slice oz P cz) P Zf) := ezZ.below hb
  have HBE : Hid (Rd4 wL N11 0 be ∧ N11 < wL.heap.size ∧ Rd4 wL N12 0 ga ∧ N12 < wL.heap.size ∧ Blk wL 25 N22 (fun _ => 0)) := ⟨gZ11.below hb lZ11, Nat.lt_of_lt_of_le lZ11 hb.size, gZ12.below hb lZ12, Nat.lt_of_lt_of_le lZ12 hb.size, b22.belowAll hb⟩
  have HAL2 : Hid (BlkE wL A u Sv ∧ BlkE wL H u Mv ∧ BlkE wL pg P pt) := ⟨HAZ.out.1.belowAll hb, HAZ.out.2.belowAll hb, bpg⟩
  have HBL : Hid (Below w.heap.size w wL) := hbL
  have HGL : Hid (GlobD wL) := HG.out.below hbL
  clear hb hbZ hbL ezZ gZ11 gZ12 lZ11 lZ12 b22 bpg HAZ lpg
  rcases HZL.out.open with ⟨_, hz, _⟩ | ⟨zb, zo, rfl, _, _, lz, hzc⟩
  · have := HPU.out; omega
  have HZC : Hid (zb < wL.heap.size ∧ ∀ i, i < P → ∀ j, j < 4 → wL.cell? ⟨zb, zo + i * 4 + j, none⟩ = some (.int .u64 ((limb j (Zf i) : Nat) : Int))) := ⟨lz, hzc⟩
  have hup : u < P := by have := HPU.out; omega
  have huP : (u : Int) < (P : Int) := by omega
  have hu0 : (0 : Int) ≤ (u : Int) := by omega
  obtain ⟨o1, eo1⟩ : ∃ o1, o1 = Zf u := ⟨_, rfl⟩
  have h1 : o1 = 1 := eo1.trans (HZ1.out HNZ.out)
  have HNE1 : ∀ w, (binOp .neq 25 (.agg #[.int .u64 ((limb 0 (o1) : Nat) : Int), .int .u64 ((limb 1 (o1) : Nat) : Int), .int .u64 ((limb 2 (o1) : Nat) : Int), .int .u64 ((limb 3 (o1) : Nat) : Int)]) (.agg #[.int .u64 1, .int .u64 0, .int .u64 0, .int .u64 0])).run Tryz.prog w = .ok (.bool false) w := fun w => by
    have h := neqE 1 1 (by decide) (by decide) w
    rw [decide_eq_true rfl] at h
    rw [h1]
    have h2 : (.agg #[.int .u64 ((limb 0 (1) : Nat) : Int), .int .u64 ((limb 1 (1) : Nat) : Int), .int .u64 ((limb 2 (1) : Nat) : Int), .int .u64 ((limb 3 (1) : Nat) : Int)] : Value) = .agg #[.int .u64 1, .int .u64 0, .int .u64 0, .int .u64 0] := one_agg
    rw [h2] at h ⊢
    exact h
  have z0 := hzc u hup 0 (by decide); have z1 := hzc u hup 1 (by decide); have z2 := hzc u hup 2 (by decide); have z3 := hzc u hup 3 (by decide)
  rw [← eo1] at z0 z1 z2 z3
  rw [Nat.add_zero] at z0
  clear hzc lz eo1 h1 hup
  go_wp2
  clear z0 z1 z2 z3 HNE1 huP hu0
  go_loopw [25] (fun rv wr => ∃ r : Nat, rv = .int .i64 (r : Int) ∧ r ≤ P ∧ Below wL.heap.size wL wr) (fun rv _ => P - (intOf rv).toNat)
  case atStart => exact ⟨0, rfl, Nat.zero_le _, Below.refl _ _⟩
  case round =>
    obtain ⟨r, rfl, hr, hbr⟩ := hrel
    have hP32 : P ≤ 32 := HPU.out.2.2.2
    obtain ⟨wq, rfl⟩ : ∃ z, z = wr := ⟨_, rfl⟩
    have HBQ : Hid (Below w.heap.size w wq) := bStep HBL.out hbr
    have HBR : Hid (Below wL.heap.size wL wq) := hbr
    by_cases hlt : r < P
    · have hri : (r : Int) < (P : Int) := by omega
      have hr0 : (0 : Int) ≤ (r : Int) := by omega
      have HRL : Hid (r < 2 ^ q) := by show r < _; rw [← HPU.out.1]; exact hlt
      obtain ⟨y0, hpl⟩ := HPL.out r HRL.out
      have HCR : Hid (∀ y0 w, Glob w → _) := HCK.out HNZ.out r HRL.out
      obtain ⟨x, ex⟩ : ∃ x, x = pt r := ⟨_, rfl⟩
      rw [← ex] at hpl
      obtain ⟨y1, ey1⟩ : ∃ y, y = (if 0 = r then 1 else 0 : Nat) := ⟨_, rfl⟩
      obtain ⟨y2, ey2⟩ : ∃ y, y = (if u = r then 1 else 0 : Nat) := ⟨_, rfl⟩
      obtain ⟨y3, ey3⟩ : ∃ y, y = (if r < u then 1 else 0 : Nat) := ⟨_, rfl⟩
      rw [← ey1, ← ey2, ← ey3] at HCR
      rw [← ey1, ← ey2, ← ey3] at hpl
      have HPR : Hid (∀ w, GlobD w → _) := hpl
      have hcp := (HAL2.out.2.2.belowAll hbr).cell r hlt
      have p0 := hcp 0 (by decide); have p1 := hcp 1 (by decide); have p2 := hcp 2 (by decide); have p3 := hcp 3 (by decide)
      rw [← ex] at p0 p1 p2 p3
      rw [Nat.add_zero] at p0
      obtain ⟨x0, ex0⟩ : ∃ x, x = atF s u f r := ⟨_, rfl⟩
      obtain ⟨x1, ex1⟩ : ∃ x, x = atF s u g r := ⟨_, rfl⟩
      obtain ⟨x2, ex2⟩ : ∃ x, x = atF s u Sv r := ⟨_, rfl⟩
      obtain ⟨bk, ebk⟩ : ∃ x, x = (r + 2 ^ q - 1) % 2 ^ q := ⟨_, rfl⟩
      obtain ⟨x3, ex3⟩ : ∃ x, x = atF s u Sv bk := ⟨_, rfl⟩
      obtain ⟨x4, ex4⟩ : ∃ x, x = atF s u Mv r := ⟨_, rfl⟩
      obtain ⟨x5, ex5⟩ : ∃ x, x = Zf r := ⟨_, rfl⟩
      obtain ⟨nx, enx⟩ : ∃ x, x = (r + 1) % 2 ^ q := ⟨_, rfl⟩
      obtain ⟨x6, ex6⟩ : ∃ x, x = Zf nx := ⟨_, rfl⟩
      rw [← ebk, ← enx, ← ex0, ← ex1, ← ex2, ← ex3, ← ex4, ← ex5, ← ex6] at HCR
      rw [← HPU.out.1] at ebk enx
      obtain ⟨t1, et1⟩ : ∃ t, t = r + P := ⟨_, rfl⟩
      obtain ⟨t2, et2⟩ : ∃ t, t = r + P - 1 := ⟨_, rfl⟩
      obtain ⟨t3, et3⟩ : ∃ t, t = r + 1 := ⟨_, rfl⟩
      have HW1 : Hid (IntKind.i64.wrap ((r : Int) + (P : Int)) = (t1 : Int) ∧ IntKind.i64.wrap ((t1 : Int) - 1) = (t2 : Int) ∧ Int.tmod (t2 : Int) (P : Int) = (bk : Int) ∧ IntKind.i64.wrap ((r : Int) + 1) = (t3 : Int) ∧ Int.tmod (t3 : Int) (P : Int) = (nx : Int) ∧ ¬ P = 0) := by
        have hP8 := HPU.out.2.2.1
        refine ⟨?_, ?_, ?_, ?_, ?_, by omega⟩
        · rw [show (r : Int) + (P : Int) = (t1 : Int) by omega]; exact wrap_i64_nat t1 (by omega)
        · rw [show (t1 : Int) - 1 = (t2 : Int) by omega]; exact wrap_i64_nat t2 (by omega)
        · rw [ebk, ← et2, Int.tmod_eq_emod_of_nonneg (by omega)]; simp
        · rw [show (r : Int) + 1 = (t3 : Int) by omega]; exact wrap_i64_nat t3 (by omega)
        · rw [enx, ← et3, Int.tmod_eq_emod_of_nonneg (by omega)]; simp
      have hbkP : bk < P := by rw [ebk]; exact Nat.mod_lt _ (by have := HPU.out; omega)
      have hnxP : nx < P := by rw [enx]; exact Nat.mod_lt _ (by have := HPU.out; omega)
      have HNX : Hid (nx < P ∧ (nx : Int) < (P : Int) ∧ (0 : Int) ≤ (nx : Int)) := ⟨hnxP, by omega, by omega⟩
      have HAT : Hid (∀ w', Below wL.heap.size wL w' → (Calls Tryz.prog 11 #[.int .i64 (s : Int), .slice oa u ca, .int .i64 (r : Int)] w' fun e w'' => e = .returned (.agg #[.int .u64 ((limb 0 (x0) : Nat) : Int), .int .u64 ((limb 1 (x0) : Nat) : Int), .int .u64 ((limb 2 (x0) : Nat) : Int), .int .u64 ((limb 3 (x0) : Nat) : Int)]) ∧ Below w'.heap.size w' w'') ∧ (Calls Tryz.prog 11 #[.int .i64 (s : Int), .slice ob u cb, .int .i64 (r : Int)] w' fun e w'' => e = .returned (.agg #[.int .u64 ((limb 0 (x1) : Nat) : Int), .int .u64 ((limb 1 (x1) : Nat) : Int), .int .u64 ((limb 2 (x1) : Nat) : Int), .int .u64 ((limb 3 (x1) : Nat) : Int)]) ∧ Below w'.heap.size w' w'') ∧ (Calls Tryz.prog 11 #[.int .i64 (s : Int), .slice (some ⟨A, 0, none⟩) u u, .int .i64 (r : Int)] w' fun e w'' => e = .returned (.agg #[.int .u64 ((limb 0 (x2) : Nat) : Int), .int .u64 ((limb 1 (x2) : Nat) : Int), .int .u64 ((limb 2 (x2) : Nat) : Int), .int .u64 ((limb 3 (x2) : Nat) : Int)]) ∧ Below w'.heap.size w' w'') ∧ (Calls Tryz.prog 11 #[.int .i64 (s : Int), .slice (some ⟨A, 0, none⟩) u u, .int .i64 (bk : Int)] w' fun e w'' => e = .returned (.agg #[.int .u64 ((limb 0 (x3) : Nat) : Int), .int .u64 ((limb 1 (x3) : Nat) : Int), .int .u64 ((limb 2 (x3) : Nat) : Int), .int .u64 ((limb 3 (x3) : Nat) : Int)]) ∧ Below w'.heap.size w' w'') ∧ (Calls Tryz.prog 11 #[.int .i64 (s : Int), .slice (some ⟨H, 0, none⟩) u u, .int .i64 (r : Int)] w' fun e w'' => e = .returned (.agg #[.int .u64 ((limb 0 (x4) : Nat) : Int), .int .u64 ((limb 1 (x4) : Nat) : Int), .int .u64 ((limb 2 (x4) : Nat) : Int), .int .u64 ((limb 3 (x4) : Nat) : Int)]) ∧ Below w'.heap.size w' w'')) := fun w' h => by
        have hg' := (HGL.out.below h).1
        have hs4 := HMM.out.2.2.2.2
        have hm1 : u ≤ maxLen := by have := HPU.out; unfold maxLen; omega
        rw [ex0, ex1, ex2, ex3, ex4]
        exact ⟨at_any s u ca oa f r hs4 (by omega) w' hg' (HE.out.1.below (bStep HBL.out h)), at_any s u cb ob g r hs4 (by omega) w' hg' (HE.out.2.1.below (bStep HBL.out h)), at_any s u u _ Sv r hs4 (by omega) w' hg' ((HAL2.out.1.belowAll h).Es hm1), at_any s u u _ Sv bk hs4 (by omega) w' hg' ((HAL2.out.1.belowAll h).Es hm1), at_any s u u _ Mv r hs4 (by omega) w' hg' ((HAL2.out.2.1.belowAll h).Es hm1)⟩
      have HZR : Hid (∀ w', Below wL.heap.size wL w' → (w'.cell? ⟨zb, zo + r * 4, none⟩ = some (.int .u64 ((limb 0 x5 : Nat) : Int)) ∧ w'.cell? ⟨zb, zo + r * 4 + 1, none⟩ = some (.int .u64 ((limb 1 x5 : Nat) : Int)) ∧ w'.cell? ⟨zb, zo + r * 4 + 2, none⟩ = some (.int .u64 ((limb 2 x5 : Nat) : Int)) ∧ w'.cell? ⟨zb, zo + r * 4 + 3, none⟩ = some (.int .u64 ((limb 3 x5 : Nat) : Int))) ∧ (w'.cell? ⟨zb, zo + nx * 4, none⟩ = some (.int .u64 ((limb 0 x6 : Nat) : Int)) ∧ w'.cell? ⟨zb, zo + nx * 4 + 1, none⟩ = some (.int .u64 ((limb 1 x6 : Nat) : Int)) ∧ w'.cell? ⟨zb, zo + nx * 4 + 2, none⟩ = some (.int .u64 ((limb 2 x6 : Nat) : Int)) ∧ w'.cell? ⟨zb, zo + nx * 4 + 3, none⟩ = some (.int .u64 ((limb 3 x6 : Nat) : Int)))) := fun w' h => by
        have a := fun j hj => (h.cell (p := ⟨zb, zo + r * 4 + j, none⟩) HZC.out.1).trans (HZC.out.2 r hlt j hj)
        have c := fun j hj => (h.cell (p := ⟨zb, zo + nx * 4 + j, none⟩) HZC.out.1).trans (HZC.out.2 nx hnxP j hj)
        rw [← ex5] at a
        rw [← ex6] at c
        exact ⟨⟨a 0 (by decide), a 1 (by decide), a 2 (by decide), a 3 (by decide)⟩, c 0 (by decide), c 1 (by decide), c 2 (by decide), c 3 (by decide)⟩
      obtain ⟨sk, eSK⟩ : ∃ z : Array Value, z = #[.int .u64 ((limb 0 x0 : Nat) : Int), .int .u64 ((limb 1 x0 : Nat) : Int), .int .u64 ((limb 2 x0 : Nat) : Int), .int .u64 ((limb 3 x0 : Nat) : Int), .int .u64 ((limb 0 x1 : Nat) : Int), .int .u64 ((limb 1 x1 : Nat) : Int), .int .u64 ((limb 2 x1 : Nat) : Int), .int .u64 ((limb 3 x1 : Nat) : Int), .int .u64 ((limb 0 x2 : Nat) : Int), .int .u64 ((limb 1 x2 : Nat) : Int), .int .u64 ((limb 2 x2 : Nat) : Int), .int .u64 ((limb 3 x2 : Nat) : Int), .int .u64 ((limb 0 x3 : Nat) : Int), .int .u64 ((limb 1 x3 : Nat) : Int), .int .u64 ((limb 2 x3 : Nat) : Int), .int .u64 ((limb 3 x3 : Nat) : Int), .int .u64 ((limb 0 x4 : Nat) : Int), .int .u64 ((limb 1 x4 : Nat) : Int), .int .u64 ((limb 2 x4 : Nat) : Int), .int .u64 ((limb 3 x4 : Nat) : Int), .int .u64 ((limb 0 x5 : Nat) : Int), .int .u64 ((limb 1 x5 : Nat) : Int), .int .u64 ((limb 2 x5 : Nat) : Int), .int .u64 ((limb 3 x5 : Nat) : Int), .int .u64 ((limb 0 x6 : Nat) : Int), .int .u64 ((limb 1 x6 : Nat) : Int), .int .u64 ((limb 2 x6 : Nat) : Int), .int .u64 ((limb 3 x6 : Nat) : Int)] := ⟨_, rfl⟩
      obtain ⟨sp, eSP⟩ : ∃ z : Array Value, z = #[.int .u64 ((limb 0 y0 : Nat) : Int), .int .u64 ((limb 1 y0 : Nat) : Int), .int .u64 ((limb 2 y0 : Nat) : Int), .int .u64 ((limb 3 y0 : Nat) : Int), .int .u64 ((limb 0 y1 : Nat) : Int), .int .u64 ((limb 1 y1 : Nat) : Int), .int .u64 ((limb 2 y1 : Nat) : Int), .int .u64 ((limb 3 y1 : Nat) : Int), .int .u64 ((limb 0 y2 : Nat) : Int), .int .u64 ((limb 1 y2 : Nat) : Int), .int .u64 ((limb 2 y2 : Nat) : Int), .int .u64 ((limb 3 y2 : Nat) : Int), .int .u64 ((limb 0 y3 : Nat) : Int), .int .u64 ((limb 1 y3 : Nat) : Int), .int .u64 ((limb 2 y3 : Nat) : Int), .int .u64 ((limb 3 y3 : Nat) : Int)] := ⟨_, rfl⟩
      obtain ⟨zz, eZZ⟩ : ∃ z : Array Value, z = #[.int .u64 0, .int .u64 0, .int .u64 0, .int .u64 0, .int .u64 0, .int .u64 0, .int .u64 0, .int .u64 0, .int .u64 0, .int .u64 0, .int .u64 0, .int .u64 0, .int .u64 0, .int .u64 0, .int .u64 0, .int .u64 0, .int .u64 0, .int .u64 0, .int .u64 0, .int .u64 0, .int .u64 0, .int .u64 0, .int .u64 0, .int .u64 0, .int .u64 0, .int .u64 0, .int .u64 0, .int .u64 0] := ⟨_, rfl⟩
      have HSK : Hid (sk = #[.int .u64 ((limb 0 x0 : Nat) : Int), .int .u64 ((limb 1 x0 : Nat) : Int), .int .u64 ((limb 2 x0 : Nat) : Int), .int .u64 ((limb 3 x0 : Nat) : Int), .int .u64 ((limb 0 x1 : Nat) : Int), .int .u64 ((limb 1 x1 : Nat) : Int), .int .u64 ((limb 2 x1 : Nat) : Int), .int .u64 ((limb 3 x1 : Nat) : Int), .int .u64 ((limb 0 x2 : Nat) : Int), .int .u64 ((limb 1 x2 : Nat) : Int), .int .u64 ((limb 2 x2 : Nat) : Int), .int .u64 ((limb 3 x2 : Nat) : Int), .int .u64 ((limb 0 x3 : Nat) : Int), .int .u64 ((limb 1 x3 : Nat) : Int), .int .u64 ((limb 2 x3 : Nat) : Int), .int .u64 ((limb 3 x3 : Nat) : Int), .int .u64 ((limb 0 x4 : Nat) : Int), .int .u64 ((limb 1 x4 : Nat) : Int), .int .u64 ((limb 2 x4 : Nat) : Int), .int .u64 ((limb 3 x4 : Nat) : Int), .int .u64 ((limb 0 x5 : Nat) : Int), .int .u64 ((limb 1 x5 : Nat) : Int), .int .u64 ((limb 2 x5 : Nat) : Int), .int .u64 ((limb 3 x5 : Nat) : Int), .int .u64 ((limb 0 x6 : Nat) : Int), .int .u64 ((limb 1 x6 : Nat) : Int), .int .u64 ((limb 2 x6 : Nat) : Int), .int .u64 ((limb 3 x6 : Nat) : Int)]) := eSK
      have HSP : Hid (sp = #[.int .u64 ((limb 0 y0 : Nat) : Int), .int .u64 ((limb 1 y0 : Nat) : Int), .int .u64 ((limb 2 y0 : Nat) : Int), .int .u64 ((limb 3 y0 : Nat) : Int), .int .u64 ((limb 0 y1 : Nat) : Int), .int .u64 ((limb 1 y1 : Nat) : Int), .int .u64 ((limb 2 y1 : Nat) : Int), .int .u64 ((limb 3 y1 : Nat) : Int), .int .u64 ((limb 0 y2 : Nat) : Int), .int .u64 ((limb 1 y2 : Nat) : Int), .int .u64 ((limb 2 y2 : Nat) : Int), .int .u64 ((limb 3 y2 : Nat) : Int), .int .u64 ((limb 0 y3 : Nat) : Int), .int .u64 ((limb 1 y3 : Nat) : Int), .int .u64 ((limb 2 y3 : Nat) : Int), .int .u64 ((limb 3 y3 : Nat) : Int)]) := eSP
      have HZZ : Hid (zz = #[.int .u64 0, .int .u64 0, .int .u64 0, .int .u64 0, .int .u64 0, .int .u64 0, .int .u64 0, .int .u64 0, .int .u64 0, .int .u64 0, .int .u64 0, .int .u64 0, .int .u64 0, .int .u64 0, .int .u64 0, .int .u64 0, .int .u64 0, .int .u64 0, .int .u64 0, .int .u64 0, .int .u64 0, .int .u64 0, .int .u64 0, .int .u64 0, .int .u64 0, .int .u64 0, .int .u64 0, .int .u64 0]) := eZZ
      have HSS : Hid (sk.size = 28 ∧ zz.size = 28) := ⟨by rw [eSK]; rfl, by rw [eZZ]; rfl⟩
      have HS1 : Hid (sk.all (·.oneCell') = true) := by rw [eSK]; exact one28 x0 x1 x2 x3 x4 x5 x6
      have HSI : Hid ((Tryz.prog.info? 43).map (·.size) = some sk.size) := by
        show _ = _
        rw [HSS.out.1]; exact sizS
      have HPI : Hid ((Tryz.prog.info? 38).map (·.size) = some sp.size) := by
        show _ = _
        rw [eSP]; exact sizP
      have hcr := HCR.out y0
      rw [← eSK, ← eSP] at hcr
      have HCQ : Hid (∀ w, Glob w → _) := hcr
      clear hcr HCR eSK eSP eZZ hcp ex ey1 ey2 ey3 ex0 ex1 ex2 ex3 ex4 ex5 ex6 ebk enx et1 et2 et3 hpl hbkP hnxP
      go_wp2_with fail
      refine (HPR.out wq (HGL.out.below hbr)).mono ?_
      rintro e wa ⟨rfl, hba⟩
      have hb2 := bStep hbr hba
      clear p0 p1 p2 p3 hbr hba HPR
      go_upto_region 22 with fail
      obtain ⟨wb, hwb⟩ : ∃ z : World, z = wa.alloc (.cells #[.int .u64 ((limb 0 y0 : Nat) : Int), .int .u64 ((limb 1 y0 : Nat) : Int), .int .u64 ((limb 2 y0 : Nat) : Int), .int .u64 ((limb 3 y0 : Nat) : Int), .int .u64 ((limb 0 y1 : Nat) : Int), .int .u64 ((limb 1 y1 : Nat) : Int), .int .u64 ((limb 2 y1 : Nat) : Int), .int .u64 ((limb 3 y1 : Nat) : Int), .int .u64 ((limb 0 y2 : Nat) : Int), .int .u64 ((limb 1 y2 : Nat) : Int), .int .u64 ((limb 2 y2 : Nat) : Int), .int .u64 ((limb 3 y2 : Nat) : Int), .int .u64 ((limb 0 y3 : Nat) : Int), .int .u64 ((limb 1 y3 : Nat) : Int), .int .u64 ((limb 2 y3 : Nat) : Int), .int .u64 ((limb 3 y3 : Nat) : Int)] 38) := ⟨_, rfl⟩
      obtain ⟨N26, e26⟩ : ∃ z, z = wa.heap.size := ⟨_, rfl⟩
      have b26 : Lay wb 38 N26 sp := by rw [hwb, HSP.out]; exact Lay.newAt _ _ _ e26
      have hb3 : Below wL.heap.size wL wb := by rw [hwb]; exact bAlloc hb2 _
      rw [← hwb]
      try rw [← e26]
      clear hwb e26 hb2
      have HB3 : Hid (Below wL.heap.size wL wb) := hb3
      clear hb3
      go_cut [26, 28] (fun qv pv wx => ∃ N28, qv = .pointer (some ⟨N26, 0, none⟩) ∧ pv = .pointer (some ⟨N28, 0, none⟩) ∧ Below wb.heap.size wb wx ∧ Lay wx 43 N28 sk)
      case first =>
        refine wp_region_Z (fun w' => Below wb.heap.size wb w') 99 (by kernel_rfl) ?_
        obtain ⟨wD, hD⟩ : ∃ z : World, z = wb.drew := ⟨_, rfl⟩
        rw [← hD]
        have hp0 : Below wb.heap.size wb wD := by rw [hD]; exact (Below.refl _ _).drew
        clear hD
        refine zt 0 146 (.int .i64 (s : Int)) rfl rfl (fun w hSw => by go_simp) hp0 ?_
        simp only [Act.put, List.setIfInBounds_toArray]
        (try dsimp only [List.set_cons_zero, List.set_cons_succ])
        refine zt 1 147 (.slice oa u ca) rfl rfl (fun w hSw => by go_simp) hp0 ?_
        simp only [Act.put, List.setIfInBounds_toArray]
        (try dsimp only [List.set_cons_zero, List.set_cons_succ])
        refine zt 2 148 (.int .i64 (r : Int)) rfl rfl (fun w hSw => by go_simp) hp0 ?_
        simp only [Act.put, List.setIfInBounds_toArray]
        (try dsimp only [List.set_cons_zero, List.set_cons_succ])
        refine zt 4 150 (.int .i64 (s : Int)) rfl rfl (fun w hSw => by go_simp) hp0 ?_
        simp only [Act.put, List.setIfInBounds_toArray]
        (try dsimp only [List.set_cons_zero, List.set_cons_succ])
        refine zt 5 151 (.slice ob u cb) rfl rfl (fun w hSw => by go_simp) hp0 ?_
        simp only [Act.put, List.setIfInBounds_toArray]
        (try dsimp only [List.set_cons_zero, List.set_cons_succ])
        refine zt 6 152 (.int .i64 (r : Int)) rfl rfl (fun w hSw => by go_simp) hp0 ?_
        simp only [Act.put, List.setIfInBounds_toArray]
        (try dsimp only [List.set_cons_zero, List.set_cons_succ])
        refine zt 8 154 (.int .i64 (s : Int)) rfl rfl (fun w hSw => by go_simp) hp0 ?_
        simp only [Act.put, List.setIfInBounds_toArray]
        (try dsimp only [List.set_cons_zero, List.set_cons_succ])
        refine zt 9 155 (.slice (some ⟨A, 0, none⟩) u u) rfl rfl (fun w hSw => by go_simp) hp0 ?_
        simp only [Act.put, List.setIfInBounds_toArray]
        (try dsimp only [List.set_cons_zero, List.set_cons_succ])
        refine zt 10 156 (.int .i64 (r : Int)) rfl rfl (fun w hSw => by go_simp) hp0 ?_
        simp only [Act.put, List.setIfInBounds_toArray]
        (try dsimp only [List.set_cons_zero, List.set_cons_succ])
        refine zt 12 158 (.int .i64 (s : Int)) rfl rfl (fun w hSw => by go_simp) hp0 ?_
        simp only [Act.put, List.setIfInBounds_toArray]
        (try dsimp only [List.set_cons_zero, List.set_cons_succ])
        refine zt 13 159 (.slice (some ⟨A, 0, none⟩) u u) rfl rfl (fun w hSw => by go_simp) hp0 ?_
        simp only [Act.put, List.setIfInBounds_toArray]
        (try dsimp only [List.set_cons_zero, List.set_cons_succ])
        refine zt 14 160 (.int .i64 (r : Int)) rfl rfl (fun w hSw => by go_simp) hp0 ?_
        simp only [Act.put, List.setIfInBounds_toArray]
        (try dsimp only [List.set_cons_zero, List.set_cons_succ])
        refine zt 15 161 (.int .i64 (P : Int)) rfl rfl (fun w hSw => by go_simp) hp0 ?_
        simp only [Act.put, List.setIfInBounds_toArray]
        (try dsimp only [List.set_cons_zero, List.set_cons_succ])
        refine zt 16 162 (.int .i64 (t1 : Int)) rfl rfl (fun w hSw => by have hh := HW1.out.1; clear hSw; go_simp) hp0 ?_
        simp only [Act.put, List.setIfInBounds_toArray]
        (try dsimp only [List.set_cons_zero, List.set_cons_succ])
        refine zt 17 163 (.int .i64 (t2 : Int)) rfl rfl (fun w hSw => by have hh := HW1.out.2.1; clear hSw; go_simp) hp0 ?_
        simp only [Act.put, List.setIfInBounds_toArray]
        (try dsimp only [List.set_cons_zero, List.set_cons_succ])
        refine zt 18 164 (.int .i64 (P : Int)) rfl rfl (fun w hSw => by go_simp) hp0 ?_
        simp only [Act.put, List.setIfInBounds_toArray]
        (try dsimp only [List.set_cons_zero, List.set_cons_succ])
        refine zt 19 165 (.int .i64 (bk : Int)) rfl rfl (fun w hSw => by have hh := HW1.out.2.2.1; have hp := HW1.out.2.2.2.2.2; clear hSw; go_simp) hp0 ?_
        simp only [Act.put, List.setIfInBounds_toArray]
        (try dsimp only [List.set_cons_zero, List.set_cons_succ])
        refine zt 21 167 (.int .i64 (s : Int)) rfl rfl (fun w hSw => by go_simp) hp0 ?_
        simp only [Act.put, List.setIfInBounds_toArray]
        (try dsimp only [List.set_cons_zero, List.set_cons_succ])
        refine zt 22 168 (.slice (some ⟨H, 0, none⟩) u u) rfl rfl (fun w hSw => by go_simp) hp0 ?_
        simp only [Act.put, List.setIfInBounds_toArray]
        (try dsimp only [List.set_cons_zero, List.set_cons_succ])
        refine zt 23 169 (.int .i64 (r : Int)) rfl rfl (fun w hSw => by go_simp) hp0 ?_
        simp only [Act.put, List.setIfInBounds_toArray]
        (try dsimp only [List.set_cons_zero, List.set_cons_succ])
        refine zt 25 171 (.slice (some ⟨zb, zo, none⟩) P cz) rfl rfl (fun w hSw => by go_simp) hp0 ?_
        simp only [Act.put, List.setIfInBounds_toArray]
        (try dsimp only [List.set_cons_zero, List.set_cons_succ])
        refine zt 26 172 (.int .i64 (r : Int)) rfl rfl (fun w hSw => by go_simp) hp0 ?_
        simp only [Act.put, List.setIfInBounds_toArray]
        (try dsimp only [List.set_cons_zero, List.set_cons_succ])
        refine zt 27 173 (.pointer (some ⟨zb, zo + r * 4, none⟩)) rfl rfl (fun w hSw => by go_simp) hp0 ?_
        simp only [Act.put, List.setIfInBounds_toArray]
        (try dsimp only [List.set_cons_zero, List.set_cons_succ])
        refine zt 28 174 (.agg #[.int .u64 ((limb 0 (x5) : Nat) : Int), .int .u64 ((limb 1 (x5) : Nat) : Int), .int .u64 ((limb 2 (x5) : Nat) : Int), .int .u64 ((limb 3 (x5) : Nat) : Int)]) rfl rfl (fun w hSw => by obtain ⟨⟨q0, q1, q2, q3⟩, ⟨q4, q5, q6, q7⟩⟩ := HZR.out w (bStep HB3.out hSw); clear hSw; go_simp) hp0 ?_
        simp only [Act.put, List.setIfInBounds_toArray]
        (try dsimp only [List.set_cons_zero, List.set_cons_succ])
        refine zt 29 175 (.slice (some ⟨zb, zo, none⟩) P cz) rfl rfl (fun w hSw => by go_simp) hp0 ?_
        simp only [Act.put, List.setIfInBounds_toArray]
        (try dsimp only [List.set_cons_zero, List.set_cons_succ])
        refine zt 30 176 (.int .i64 (r : Int)) rfl rfl (fun w hSw => by go_simp) hp0 ?_
        simp only [Act.put, List.setIfInBounds_toArray]
        (try dsimp only [List.set_cons_zero, List.set_cons_succ])
        refine zt 31 177 (.int .i64 (t3 : Int)) rfl rfl (fun w hSw => by have hh := HW1.out.2.2.2.1; clear hSw; go_simp) hp0 ?_
        simp only [Act.put, List.setIfInBounds_toArray]
        (try dsimp only [List.set_cons_zero, List.set_cons_succ])
        refine zt 32 178 (.int .i64 (P : Int)) rfl rfl (fun w hSw => by go_simp) hp0 ?_
        simp only [Act.put, List.setIfInBounds_toArray]
        (try dsimp only [List.set_cons_zero, List.set_cons_succ])
        refine zt 33 179 (.int .i64 (nx : Int)) rfl rfl (fun w hSw => by have hh := HW1.out.2.2.2.2.1; have hp := HW1.out.2.2.2.2.2; clear hSw; go_simp) hp0 ?_
        simp only [Act.put, List.setIfInBounds_toArray]
        (try dsimp only [List.set_cons_zero, List.set_cons_succ])
        refine zt 34 180 (.pointer (some ⟨zb, zo + nx * 4, none⟩)) rfl rfl (fun w hSw => by have hh := HNX.out.2.1; have hp := HNX.out.2.2; clear hSw; go_simp) hp0 ?_
        simp only [Act.put, List.setIfInBounds_toArray]
        (try dsimp only [List.set_cons_zero, List.set_cons_succ])
        refine zt 35 181 (.agg #[.int .u64 ((limb 0 (x6) : Nat) : Int), .int .u64 ((limb 1 (x6) : Nat) : Int), .int .u64 ((limb 2 (x6) : Nat) : Int), .int .u64 ((limb 3 (x6) : Nat) : Int)]) rfl rfl (fun w hSw => by obtain ⟨⟨q0, q1, q2, q3⟩, ⟨q4, q5, q6, q7⟩⟩ := HZR.out w (bStep HB3.out hSw); clear hSw; go_simp) hp0 ?_
        simp only [Act.put, List.setIfInBounds_toArray]
        (try dsimp only [List.set_cons_zero, List.set_cons_succ])
        refine wpZ_two (i := 3) (j := 37) (by kernel_rfl) rfl rfl (fun K hK => ?_) (fun K hK => ?_) 
        · go_simp
          refine Calls.mono ((HAT.out wD (bStep HB3.out hp0)).1) ?_
          rintro e wK1 ⟨rfl, hbK1⟩
          have hpK1 : Below wb.heap.size wb wK1 := bStep hp0 hbK1
          clear hbK1
          go_wp2_with fail
          refine hK.out _ _ (fun _ => hpK1) ?_
          clear hK K
          refine wpZ_two (i := 7) (j := 37) (by kernel_rfl) rfl rfl (fun K hK => ?_) (fun K hK => ?_) 
          · go_simp
            refine Calls.mono ((HAT.out wK1 (bStep HB3.out hpK1)).2.1) ?_
            rintro e wK2 ⟨rfl, hbK2⟩
            have hpK2 : Below wb.heap.size wb wK2 := bStep hpK1 hbK2
            clear hbK2
            go_wp2_with fail
            refine hK.out _ _ (fun _ => hpK2) ?_
            clear hK K
            refine wpZ_two (i := 11) (j := 37) (by kernel_rfl) rfl rfl (fun K hK => ?_) (fun K hK => ?_) 
            · go_simp
              refine Calls.mono ((HAT.out wK2 (bStep HB3.out hpK2)).2.2.1) ?_
              rintro e wK3 ⟨rfl, hbK3⟩
              have hpK3 : Below wb.heap.size wb wK3 := bStep hpK2 hbK3
              clear hbK3
              go_wp2_with fail
              refine hK.out _ _ (fun _ => hpK3) ?_
              clear hK K
              refine wpZ_two (i := 20) (j := 37) (by kernel_rfl) rfl rfl (fun K hK => ?_) (fun K hK => ?_) 
              · go_simp
                refine Calls.mono ((HAT.out wK3 (bStep HB3.out hpK3)).2.2.2.1) ?_
                rintro e wK4 ⟨rfl, hbK4⟩
                have hpK4 : Below wb.heap.size wb wK4 := bStep hpK3 hbK4
                clear hbK4
                go_wp2_with fail
                refine hK.out _ _ (fun _ => hpK4) ?_
                clear hK K
                refine wpZ_two (i := 24) (j := 37) (by kernel_rfl) rfl rfl (fun K hK => ?_) (fun K hK => ?_) 
                · go_simp
                  refine Calls.mono ((HAT.out wK4 (bStep HB3.out hpK4)).2.2.2.2) ?_
                  rintro e wK5 ⟨rfl, hbK5⟩
                  have hpK5 : Below wb.heap.size wb wK5 := bStep hpK4 hbK5
                  clear hbK5
                  go_wp2_with fail
                  refine hK.out _ _ (fun _ => hpK5) ?_
                  clear hK K
                  refine zt 36 182 (.agg sk) rfl rfl (fun w hSw => by rw [HSK.out]; clear hSw; go_simp) hpK5 ?_
                  simp only [Act.put, List.setIfInBounds_toArray]
                  (try dsimp only [List.set_cons_zero, List.set_cons_succ])
                  refine wpZ_one (i := 37) (by kernel_rfl) rfl (fun K hK => ?_)
                  go_simp
                  obtain ⟨wA, hwA⟩ : ∃ z : World, z = wK5.alloc (.cells #[.int .u64 0, .int .u64 0, .int .u64 0, .int .u64 0, .int .u64 0, .int .u64 0, .int .u64 0, .int .u64 0, .int .u64 0, .int .u64 0, .int .u64 0, .int .u64 0, .int .u64 0, .int .u64 0, .int .u64 0, .int .u64 0, .int .u64 0, .int .u64 0, .int .u64 0, .int .u64 0, .int .u64 0, .int .u64 0, .int .u64 0, .int .u64 0, .int .u64 0, .int .u64 0, .int .u64 0, .int .u64 0] 43) := ⟨_, rfl⟩
                  obtain ⟨N28, eN28⟩ : ∃ z, z = wK5.heap.size := ⟨_, rfl⟩
                  have b28 : Lay wA 43 N28 zz := by rw [hwA, HZZ.out]; exact Lay.newAt _ _ _ eN28
                  have hbA : Below wK5.heap.size wK5 wA := by rw [hwA]; exact bAlloc (Below.refl _ _) _
                  have l28 : wb.heap.size ≤ N28 := by rw [eN28]; exact hpK5.size
                  have hpA : Below wb.heap.size wb wA := bStep hpK5 hbA
                  rw [← hwA, ← eN28]
                  refine hK.out _ _ (fun _ => hpA) ?_
                  clear hK K hwA eN28 hbA
                  refine wpZ_one (i := 38) (by kernel_rfl) rfl (fun K hK => ?_)
                  rw [if_pos (show Region.wanted _ _ = true from rfl)]
                  obtain ⟨wS, hwS, t28, hk28, hth⟩ := b28.putAll sk (HSS.out.1.trans HSS.out.2.symm)
                  refine wp_store_mid 43 _ _ rfl N28 0 sk rfl rfl hth HSI.out HS1.out ?_
                  rw [hwS]
                  simp only [Act.put]
                  have hpS : Below wb.heap.size wb wS := bKept hpA l28 hk28
                  refine hK.out _ _ (fun _ => hpS) ?_
                  clear hK K hwS hk28 hth
                  refine wpZ_done (by kernel_rfl) ?_ _
                  go_wp2_with fail
                  go_meet
                  exact ⟨N28, rfl, rfl, hpS, t28⟩
                · go_simp
                  obtain ⟨wA, hwA⟩ : ∃ z : World, z = wK4.alloc (.cells #[.int .u64 0, .int .u64 0, .int .u64 0, .int .u64 0, .int .u64 0, .int .u64 0, .int .u64 0, .int .u64 0, .int .u64 0, .int .u64 0, .int .u64 0, .int .u64 0, .int .u64 0, .int .u64 0, .int .u64 0, .int .u64 0, .int .u64 0, .int .u64 0, .int .u64 0, .int .u64 0, .int .u64 0, .int .u64 0, .int .u64 0, .int .u64 0, .int .u64 0, .int .u64 0, .int .u64 0, .int .u64 0] 43) := ⟨_, rfl⟩
                  obtain ⟨N28, eN28⟩ : ∃ z, z = wK4.heap.size := ⟨_, rfl⟩
                  have b28 : Lay wA 43 N28 zz := by rw [hwA, HZZ.out]; exact Lay.newAt _ _ _ eN28
                  have hbA : Below wK4.heap.size wK4 wA := by rw [hwA]; exact bAlloc (Below.refl _ _) _
                  have l28 : wb.heap.size ≤ N28 := by rw [eN28]; exact hpK4.size
                  have hpA : Below wb.heap.size wb wA := bStep hpK4 hbA
                  rw [← hwA, ← eN28]
                  refine hK.out _ _ (fun _ => hpA) ?_
                  clear hK K hwA eN28 hbA
                  refine wpZ_one (i := 24) (by kernel_rfl) rfl (fun K hK => ?_)
                  go_simp
                  refine Calls.mono ((HAT.out wA (bStep HB3.out hpA)).2.2.2.2) ?_
                  rintro e wK5 ⟨rfl, hbK5⟩
                  have hpK5 : Below wb.heap.size wb wK5 := bStep hpA hbK5
                  have b28 := b28.belowAll hbK5
                  clear hbK5
                  go_wp2_with fail
                  refine hK.out _ _ (fun _ => hpK5) ?_
                  clear hK K
                  refine zt 36 182 (.agg sk) rfl rfl (fun w hSw => by rw [HSK.out]; clear hSw; go_simp) hpK5 ?_
                  simp only [Act.put, List.setIfInBounds_toArray]
                  (try dsimp only [List.set_cons_zero, List.set_cons_succ])
                  refine wpZ_one (i := 38) (by kernel_rfl) rfl (fun K hK => ?_)
                  rw [if_pos (show Region.wanted _ _ = true from rfl)]
                  obtain ⟨wS, hwS, t28, hk28, hth⟩ := b28.putAll sk (HSS.out.1.trans HSS.out.2.symm)
                  refine wp_store_mid 43 _ _ rfl N28 0 sk rfl rfl hth HSI.out HS1.out ?_
                  rw [hwS]
                  simp only [Act.put]
                  have hpS : Below wb.heap.size wb wS := bKept hpK5 l28 hk28
                  refine hK.out _ _ (fun _ => hpS) ?_
                  clear hK K hwS hk28 hth
                  refine wpZ_done (by kernel_rfl) ?_ _
                  go_wp2_with fail
                  go_meet
                  exact ⟨N28, rfl, rfl, hpS, t28⟩
              · go_simp
                obtain ⟨wA, hwA⟩ : ∃ z : World, z = wK3.alloc (.cells #[.int .u64 0, .int .u64 0, .int .u64 0, .int .u64 0, .int .u64 0, .int .u64 0, .int .u64 0, .int .u64 0, .int .u64 0, .int .u64 0, .int .u64 0, .int .u64 0, .int .u64 0, .int .u64 0, .int .u64 0, .int .u64 0, .int .u64 0, .int .u64 0, .int .u64 0, .int .u64 0, .int .u64 0, .int .u64 0, .int .u64 0, .int .u64 0, .int .u64 0, .int .u64 0, .int .u64 0, .int .u64 0] 43) := ⟨_, rfl⟩
                obtain ⟨N28, eN28⟩ : ∃ z, z = wK3.heap.size := ⟨_, rfl⟩
                have b28 : Lay wA 43 N28 zz := by rw [hwA, HZZ.out]; exact Lay.newAt _ _ _ eN28
                have hbA : Below wK3.heap.size wK3 wA := by rw [hwA]; exact bAlloc (Below.refl _ _) _
                have l28 : wb.heap.size ≤ N28 := by rw [eN28]; exact hpK3.size
                have hpA : Below wb.heap.size wb wA := bStep hpK3 hbA
                rw [← hwA, ← eN28]
                refine hK.out _ _ (fun _ => hpA) ?_
                clear hK K hwA eN28 hbA
                refine wpZ_one (i := 20) (by kernel_rfl) rfl (fun K hK => ?_)
                go_simp
                refine Calls.mono ((HAT.out wA (bStep HB3.out hpA)).2.2.2.1) ?_
                rintro e wK4 ⟨rfl, hbK4⟩
                have hpK4 : Below wb.heap.size wb wK4 := bStep hpA hbK4
                have b28 := b28.belowAll hbK4
                clear hbK4
                go_wp2_with fail
                refine hK.out _ _ (fun _ => hpK4) ?_
                clear hK K
                refine wpZ_one (i := 24) (by kernel_rfl) rfl (fun K hK => ?_)
                go_simp
                refine Calls.mono ((HAT.out wK4 (bStep HB3.out hpK4)).2.2.2.2) ?_
                rintro e wK5 ⟨rfl, hbK5⟩
                have hpK5 : Below wb.heap.size wb wK5 := bStep hpK4 hbK5
                have b28 := b28.belowAll hbK5
                clear hbK5
                go_wp2_with fail
                refine hK.out _ _ (fun _ => hpK5) ?_
                clear hK K
                refine zt 36 182 (.agg sk) rfl rfl (fun w hSw => by rw [HSK.out]; clear hSw; go_simp) hpK5 ?_
                simp only [Act.put, List.setIfInBounds_toArray]
                (try dsimp only [List.set_cons_zero, List.set_cons_succ])
                refine wpZ_one (i := 38) (by kernel_rfl) rfl (fun K hK => ?_)
                rw [if_pos (show Region.wanted _ _ = true from rfl)]
                obtain ⟨wS, hwS, t28, hk28, hth⟩ := b28.putAll sk (HSS.out.1.trans HSS.out.2.symm)
                refine wp_store_mid 43 _ _ rfl N28 0 sk rfl rfl hth HSI.out HS1.out ?_
                rw [hwS]
                simp only [Act.put]
                have hpS : Below wb.heap.size wb wS := bKept hpK5 l28 hk28
                refine hK.out _ _ (fun _ => hpS) ?_
                clear hK K hwS hk28 hth
                refine wpZ_done (by kernel_rfl) ?_ _
                go_wp2_with fail
                go_meet
                exact ⟨N28, rfl, rfl, hpS, t28⟩
            · go_simp
              obtain ⟨wA, hwA⟩ : ∃ z : World, z = wK2.alloc (.cells #[.int .u64 0, .int .u64 0, .int .u64 0, .int .u64 0, .int .u64 0, .int .u64 0, .int .u64 0, .int .u64 0, .int .u64 0, .int .u64 0, .int .u64 0, .int .u64 0, .int .u64 0, .int .u64 0, .int .u64 0, .int .u64 0, .int .u64 0, .int .u64 0, .int .u64 0, .int .u64 0, .int .u64 0, .int .u64 0, .int .u64 0, .int .u64 0, .int .u64 0, .int .u64 0, .int .u64 0, .int .u64 0] 43) := ⟨_, rfl⟩
              obtain ⟨N28, eN28⟩ : ∃ z, z = wK2.heap.size := ⟨_, rfl⟩
              have b28 : Lay wA 43 N28 zz := by rw [hwA, HZZ.out]; exact Lay.newAt _ _ _ eN28
              have hbA : Below wK2.heap.size wK2 wA := by rw [hwA]; exact bAlloc (Below.refl _ _) _
              have l28 : wb.heap.size ≤ N28 := by rw [eN28]; exact hpK2.size
              have hpA : Below wb.heap.size wb wA := bStep hpK2 hbA
              rw [← hwA, ← eN28]
              refine hK.out _ _ (fun _ => hpA) ?_
              clear hK K hwA eN28 hbA
              refine wpZ_one (i := 11) (by kernel_rfl) rfl (fun K hK => ?_)
              go_simp
              refine Calls.mono ((HAT.out wA (bStep HB3.out hpA)).2.2.1) ?_
              rintro e wK3 ⟨rfl, hbK3⟩
              have hpK3 : Below wb.heap.size wb wK3 := bStep hpA hbK3
              have b28 := b28.belowAll hbK3
              clear hbK3
              go_wp2_with fail
              refine hK.out _ _ (fun _ => hpK3) ?_
              clear hK K
              refine wpZ_one (i := 20) (by kernel_rfl) rfl (fun K hK => ?_)
              go_simp
              refine Calls.mono ((HAT.out wK3 (bStep HB3.out hpK3)).2.2.2.1) ?_
              rintro e wK4 ⟨rfl, hbK4⟩
              have hpK4 : Below wb.heap.size wb wK4 := bStep hpK3 hbK4
              have b28 := b28.belowAll hbK4
              clear hbK4
              go_wp2_with fail
              refine hK.out _ _ (fun _ => hpK4) ?_
              clear hK K
              refine wpZ_one (i := 24) (by kernel_rfl) rfl (fun K hK => ?_)
              go_simp
              refine Calls.mono ((HAT.out wK4 (bStep HB3.out hpK4)).2.2.2.2) ?_
              rintro e wK5 ⟨rfl, hbK5⟩
              have hpK5 : Below wb.heap.size wb wK5 := bStep hpK4 hbK5
              have b28 := b28.belowAll hbK5
              clear hbK5
              go_wp2_with fail
              refine hK.out _ _ (fun _ => hpK5) ?_
              clear hK K
              refine zt 36 182 (.agg sk) rfl rfl (fun w hSw => by rw [HSK.out]; clear hSw; go_simp) hpK5 ?_
              simp only [Act.put, List.setIfInBounds_toArray]
              (try dsimp only [List.set_cons_zero, List.set_cons_succ])
              refine wpZ_one (i := 38) (by kernel_rfl) rfl (fun K hK => ?_)
              rw [if_pos (show Region.wanted _ _ = true from rfl)]
              obtain ⟨wS, hwS, t28, hk28, hth⟩ := b28.putAll sk (HSS.out.1.trans HSS.out.2.symm)
              refine wp_store_mid 43 _ _ rfl N28 0 sk rfl rfl hth HSI.out HS1.out ?_
              rw [hwS]
              simp only [Act.put]
              have hpS : Below wb.heap.size wb wS := bKept hpK5 l28 hk28
              refine hK.out _ _ (fun _ => hpS) ?_
              clear hK K hwS hk28 hth
              refine wpZ_done (by kernel_rfl) ?_ _
              go_wp2_with fail
              go_meet
              exact ⟨N28, rfl, rfl, hpS, t28⟩
          · go_simp
            obtain ⟨wA, hwA⟩ : ∃ z : World, z = wK1.alloc (.cells #[.int .u64 0, .int .u64 0, .int .u64 0, .int .u64 0, .int .u64 0, .int .u64 0, .int .u64 0, .int .u64 0, .int .u64 0, .int .u64 0, .int .u64 0, .int .u64 0, .int .u64 0, .int .u64 0, .int .u64 0, .int .u64 0, .int .u64 0, .int .u64 0, .int .u64 0, .int .u64 0, .int .u64 0, .int .u64 0, .int .u64 0, .int .u64 0, .int .u64 0, .int .u64 0, .int .u64 0, .int .u64 0] 43) := ⟨_, rfl⟩
            obtain ⟨N28, eN28⟩ : ∃ z, z = wK1.heap.size := ⟨_, rfl⟩
            have b28 : Lay wA 43 N28 zz := by rw [hwA, HZZ.out]; exact Lay.newAt _ _ _ eN28
            have hbA : Below wK1.heap.size wK1 wA := by rw [hwA]; exact bAlloc (Below.refl _ _) _
            have l28 : wb.heap.size ≤ N28 := by rw [eN28]; exact hpK1.size
            have hpA : Below wb.heap.size wb wA := bStep hpK1 hbA
            rw [← hwA, ← eN28]
            refine hK.out _ _ (fun _ => hpA) ?_
            clear hK K hwA eN28 hbA
            refine wpZ_one (i := 7) (by kernel_rfl) rfl (fun K hK => ?_)
            go_simp
            refine Calls.mono ((HAT.out wA (bStep HB3.out hpA)).2.1) ?_
            rintro e wK2 ⟨rfl, hbK2⟩
            have hpK2 : Below wb.heap.size wb wK2 := bStep hpA hbK2
            have b28 := b28.belowAll hbK2
            clear hbK2
            go_wp2_with fail
            refine hK.out _ _ (fun _ => hpK2) ?_
            clear hK K
            refine wpZ_one (i := 11) (by kernel_rfl) rfl (fun K hK => ?_)
            go_simp
            refine Calls.mono ((HAT.out wK2 (bStep HB3.out hpK2)).2.2.1) ?_
            rintro e wK3 ⟨rfl, hbK3⟩
            have hpK3 : Below wb.heap.size wb wK3 := bStep hpK2 hbK3
            have b28 := b28.belowAll hbK3
            clear hbK3
            go_wp2_with fail
            refine hK.out _ _ (fun _ => hpK3) ?_
            clear hK K
            refine wpZ_one (i := 20) (by kernel_rfl) rfl (fun K hK => ?_)
            go_simp
            refine Calls.mono ((HAT.out wK3 (bStep HB3.out hpK3)).2.2.2.1) ?_
            rintro e wK4 ⟨rfl, hbK4⟩
            have hpK4 : Below wb.heap.size wb wK4 := bStep hpK3 hbK4
            have b28 := b28.belowAll hbK4
            clear hbK4
            go_wp2_with fail
            refine hK.out _ _ (fun _ => hpK4) ?_
            clear hK K
            refine wpZ_one (i := 24) (by kernel_rfl) rfl (fun K hK => ?_)
            go_simp
            refine Calls.mono ((HAT.out wK4 (bStep HB3.out hpK4)).2.2.2.2) ?_
            rintro e wK5 ⟨rfl, hbK5⟩
            have hpK5 : Below wb.heap.size wb wK5 := bStep hpK4 hbK5
            have b28 := b28.belowAll hbK5
            clear hbK5
            go_wp2_with fail
            refine hK.out _ _ (fun _ => hpK5) ?_
            clear hK K
            refine zt 36 182 (.agg sk) rfl rfl (fun w hSw => by rw [HSK.out]; clear hSw; go_simp) hpK5 ?_
            simp only [Act.put, List.setIfInBounds_toArray]
            (try dsimp only [List.set_cons_zero, List.set_cons_succ])
            refine wpZ_one (i := 38) (by kernel_rfl) rfl (fun K hK => ?_)
            rw [if_pos (show Region.wanted _ _ = true from rfl)]
            obtain ⟨wS, hwS, t28, hk28, hth⟩ := b28.putAll sk (HSS.out.1.trans HSS.out.2.symm)
            refine wp_store_mid 43 _ _ rfl N28 0 sk rfl rfl hth HSI.out HS1.out ?_
            rw [hwS]
            simp only [Act.put]
            have hpS : Below wb.heap.size wb wS := bKept hpK5 l28 hk28
            refine hK.out _ _ (fun _ => hpS) ?_
            clear hK K hwS hk28 hth
            refine wpZ_done (by kernel_rfl) ?_ _
            go_wp2_with fail
            go_meet
            exact ⟨N28, rfl, rfl, hpS, t28⟩
        · go_simp
          obtain ⟨wA, hwA⟩ : ∃ z : World, z = wD.alloc (.cells #[.int .u64 0, .int .u64 0, .int .u64 0, .int .u64 0, .int .u64 0, .int .u64 0, .int .u64 0, .int .u64 0, .int .u64 0, .int .u64 0, .int .u64 0, .int .u64 0, .int .u64 0, .int .u64 0, .int .u64 0, .int .u64 0, .int .u64 0, .int .u64 0, .int .u64 0, .int .u64 0, .int .u64 0, .int .u64 0, .int .u64 0, .int .u64 0, .int .u64 0, .int .u64 0, .int .u64 0, .int .u64 0] 43) := ⟨_, rfl⟩
          obtain ⟨N28, eN28⟩ : ∃ z, z = wD.heap.size := ⟨_, rfl⟩
          have b28 : Lay wA 43 N28 zz := by rw [hwA, HZZ.out]; exact Lay.newAt _ _ _ eN28
          have hbA : Below wD.heap.size wD wA := by rw [hwA]; exact bAlloc (Below.refl _ _) _
          have l28 : wb.heap.size ≤ N28 := by rw [eN28]; exact hp0.size
          have hpA : Below wb.heap.size wb wA := bStep hp0 hbA
          rw [← hwA, ← eN28]
          refine hK.out _ _ (fun _ => hpA) ?_
          clear hK K hwA eN28 hbA
          refine wpZ_one (i := 3) (by kernel_rfl) rfl (fun K hK => ?_)
          go_simp
          refine Calls.mono ((HAT.out wA (bStep HB3.out hpA)).1) ?_
          rintro e wK1 ⟨rfl, hbK1⟩
          have hpK1 : Below wb.heap.size wb wK1 := bStep hpA hbK1
          have b28 := b28.belowAll hbK1
          clear hbK1
          go_wp2_with fail
          refine hK.out _ _ (fun _ => hpK1) ?_
          clear hK K
          refine wpZ_one (i := 7) (by kernel_rfl) rfl (fun K hK => ?_)
          go_simp
          refine Calls.mono ((HAT.out wK1 (bStep HB3.out hpK1)).2.1) ?_
          rintro e wK2 ⟨rfl, hbK2⟩
          have hpK2 : Below wb.heap.size wb wK2 := bStep hpK1 hbK2
          have b28 := b28.belowAll hbK2
          clear hbK2
          go_wp2_with fail
          refine hK.out _ _ (fun _ => hpK2) ?_
          clear hK K
          refine wpZ_one (i := 11) (by kernel_rfl) rfl (fun K hK => ?_)
          go_simp
          refine Calls.mono ((HAT.out wK2 (bStep HB3.out hpK2)).2.2.1) ?_
          rintro e wK3 ⟨rfl, hbK3⟩
          have hpK3 : Below wb.heap.size wb wK3 := bStep hpK2 hbK3
          have b28 := b28.belowAll hbK3
          clear hbK3
          go_wp2_with fail
          refine hK.out _ _ (fun _ => hpK3) ?_
          clear hK K
          refine wpZ_one (i := 20) (by kernel_rfl) rfl (fun K hK => ?_)
          go_simp
          refine Calls.mono ((HAT.out wK3 (bStep HB3.out hpK3)).2.2.2.1) ?_
          rintro e wK4 ⟨rfl, hbK4⟩
          have hpK4 : Below wb.heap.size wb wK4 := bStep hpK3 hbK4
          have b28 := b28.belowAll hbK4
          clear hbK4
          go_wp2_with fail
          refine hK.out _ _ (fun _ => hpK4) ?_
          clear hK K
          refine wpZ_one (i := 24) (by kernel_rfl) rfl (fun K hK => ?_)
          go_simp
          refine Calls.mono ((HAT.out wK4 (bStep HB3.out hpK4)).2.2.2.2) ?_
          rintro e wK5 ⟨rfl, hbK5⟩
          have hpK5 : Below wb.heap.size wb wK5 := bStep hpK4 hbK5
          have b28 := b28.belowAll hbK5
          clear hbK5
          go_wp2_with fail
          refine hK.out _ _ (fun _ => hpK5) ?_
          clear hK K
          refine zt 36 182 (.agg sk) rfl rfl (fun w hSw => by rw [HSK.out]; clear hSw; go_simp) hpK5 ?_
          simp only [Act.put, List.setIfInBounds_toArray]
          (try dsimp only [List.set_cons_zero, List.set_cons_succ])
          refine wpZ_one (i := 38) (by kernel_rfl) rfl (fun K hK => ?_)
          rw [if_pos (show Region.wanted _ _ = true from rfl)]
          obtain ⟨wS, hwS, t28, hk28, hth⟩ := b28.putAll sk (HSS.out.1.trans HSS.out.2.symm)
          refine wp_store_mid 43 _ _ rfl N28 0 sk rfl rfl hth HSI.out HS1.out ?_
          rw [hwS]
          simp only [Act.put]
          have hpS : Below wb.heap.size wb wS := bKept hpK5 l28 hk28
          refine hK.out _ _ (fun _ => hpS) ?_
          clear hK K hwS hk28 hth
          refine wpZ_done (by kernel_rfl) ?_ _
          go_wp2_with fail
          go_meet
          exact ⟨N28, rfl, rfl, hpS, t28⟩
      case rest =>
        obtain ⟨N28, rfl, rfl, hpS, t28⟩ := hcut
        have hb4 : Below wL.heap.size wL wc := bStep HB3.out hpS
        have HD28 : Hid (Lay wc 43 N28 sk) := t28
        have HC26 : Hid (Lay wc 38 N26 sp) := b26.belowAll hpS
        have d11 := HBE.out.1.below hb4 HBE.out.2.1; have d12 := HBE.out.2.2.1.below hb4 HBE.out.2.2.2.1
        obtain ⟨a0, a1, a2, a3⟩ := d11
        obtain ⟨g0, g1, g2, g3⟩ := d12
        go_wp2_with (first
          | (refine wpList_load_row rfl 38 _ rfl N26 rfl 38 sp (0, 0) _ HC26.out undP rfl HPI.out ?_; simp only [Act.put])
          | (refine wpList_load_row rfl 43 _ rfl N28 rfl 43 sk (0, 0) _ HD28.out undS rfl HSI.out ?_; simp only [Act.put]))
        refine (HCQ.out wc (HGL.out.below hb4).1).mono ?_
        rintro e wd ⟨⟨N, rfl, lN, bN⟩, hb⟩
        have hb5 := bStep hb4 hb
        have HB5 : Hid (Below wL.heap.size wL wd) := hb5
        have HBN : Hid (BlkE wd N 5 (fun _ => 0)) := bN
        clear hb hb4 hb5 bN lN a0 a1 a2 a3 g0 g1 g2 g3 HD28 HC26 HCQ HSK HSP HZZ HSS HS1 HSI HPI
        go_wp2
        go_loopw [30] (fun iv wr => ∃ i : Nat, iv = .int .i64 (i : Int) ∧ i ≤ 5 ∧ Below wd.heap.size wd wr) (fun iv _ => 5 - (intOf iv).toNat)
        case atStart => exact ⟨0, rfl, Nat.zero_le _, Below.refl _ _⟩
        case round =>
          obtain ⟨i, rfl, hi, hbi⟩ := hrel
          by_cases hl5 : i < 5
          · have hii : (i : Int) < 5 := by omega
            have hi0 : (0 : Int) ≤ (i : Int) := by omega
            obtain ⟨o0, eo0⟩ : ∃ o, o = (0 : Nat) := ⟨_, rfl⟩
            have HC0 : Hid (∀ w', Below wr.heap.size wr w' → w'.cell? ⟨N, i * 4, none⟩ = some (.int .u64 ((limb 0 o0 : Nat) : Int)) ∧ w'.cell? ⟨N, i * 4 + 1, none⟩ = some (.int .u64 ((limb 1 o0 : Nat) : Int)) ∧ w'.cell? ⟨N, i * 4 + 2, none⟩ = some (.int .u64 ((limb 2 o0 : Nat) : Int)) ∧ w'.cell? ⟨N, i * 4 + 3, none⟩ = some (.int .u64 ((limb 3 o0 : Nat) : Int))) := fun w' h => by
              have q := ((HBN.out.belowAll hbi).belowAll h).cell i hl5
              rw [eo0]
              exact ⟨q 0 (by decide), q 1 (by decide), q 2 (by decide), q 3 (by decide)⟩
            have HC2 : Hid (Blk wr 25 N22 (fun _ => 0)) := HBE.out.2.2.2.2.belowAll (bStep HB5.out hbi)
            have HNE : Hid (∀ w, (Op.equalIn 10000 25 (.agg #[.int .u64 ((limb 0 (o0) : Nat) : Int), .int .u64 ((limb 1 (o0) : Nat) : Int), .int .u64 ((limb 2 (o0) : Nat) : Int), .int .u64 ((limb 3 (o0) : Nat) : Int)]) (.agg #[.int .u64 0, .int .u64 0, .int .u64 0, .int .u64 0])).run Tryz.prog w = .ok true w) := fun w => by
              rw [eo0]
              exact eqZ0 w
            clear eo0
            go_upto_region 29 with fail
            refine wp_region_Z (fun w' => Below wr.heap.size wr w') 99 (by kernel_rfl) ?_
            obtain ⟨wD, hD⟩ : ∃ x : World, x = wr.drew := ⟨_, rfl⟩
            rw [← hD]
            have hp0_0 : Below wr.heap.size wr wD := by rw [hD]; exact (Below.refl _ _).drew
            have hlow0 : Below wr.heap.size wr wD := by rw [hD]; exact (Below.refl _ _).drew
            clear hD
            refine wpZ_take (i := 0) (v := .slice (some ⟨N, 0, none⟩) 5 5) 198 rfl rfl (by kernel_rfl) (by kernel_rfl) (by kernel_rfl) (Or.inr (by decide)) (fun _ _ _ h => h) (Or.inl ⟨by rfl, fun w hSw => by go_simp⟩) hp0_0 ?_
            simp only [Act.put, List.setIfInBounds_toArray]
            dsimp only [List.set_cons_zero, List.set_cons_succ]
            refine wpZ_take (i := 1) (v := .int .i64 (i : Int)) 199 rfl rfl (by kernel_rfl) (by kernel_rfl) (by kernel_rfl) (Or.inr (by decide)) (fun _ _ _ h => h) (Or.inl ⟨by rfl, fun w hSw => by go_simp⟩) hp0_0 ?_
            simp only [Act.put, List.setIfInBounds_toArray]
            dsimp only [List.set_cons_zero, List.set_cons_succ]
            refine wpZ_take (i := 2) (v := .pointer (some ⟨N, i * 4, none⟩)) 200 rfl rfl (by kernel_rfl) (by kernel_rfl) (by kernel_rfl) (Or.inr (by decide)) (fun _ _ _ h => h) (Or.inl ⟨by rfl, fun w hSw => by go_simp⟩) hp0_0 ?_
            simp only [Act.put, List.setIfInBounds_toArray]
            dsimp only [List.set_cons_zero, List.set_cons_succ]
            refine wpZ_take (i := 3) (v := .agg #[.int .u64 ((limb 0 (o0) : Nat) : Int), .int .u64 ((limb 1 (o0) : Nat) : Int), .int .u64 ((limb 2 (o0) : Nat) : Int), .int .u64 ((limb 3 (o0) : Nat) : Int)]) 201 rfl rfl (by kernel_rfl) (by kernel_rfl) (by kernel_rfl) (Or.inr (by decide)) (fun _ _ _ h => h) (Or.inl ⟨by rfl, fun w hSw => by (obtain ⟨q0, q1, q2, q3⟩ := HC0.out w hSw; clear hSw; go_simp)⟩) hp0_0 ?_
            simp only [Act.put, List.setIfInBounds_toArray]
            dsimp only [List.set_cons_zero, List.set_cons_succ]
            refine wpZ_take (i := 4) (v := .agg #[.int .u64 0, .int .u64 0, .int .u64 0, .int .u64 0]) 202 rfl rfl (by kernel_rfl) (by kernel_rfl) (by kernel_rfl) (Or.inr (by decide)) (fun _ _ _ h => h) (Or.inl ⟨by rfl, fun w hSw => by (have qq := (HC2.out.belowAll hSw).cell; clear hSw; go_simp)⟩) hp0_0 ?_
            simp only [Act.put, List.setIfInBounds_toArray]
            dsimp only [List.set_cons_zero, List.set_cons_succ]
            refine wpZ_take (i := 5) (v := .bool false) 203 rfl rfl (by kernel_rfl) (by kernel_rfl) (by kernel_rfl) (Or.inr (by decide)) (fun _ _ _ h => h) (Or.inl ⟨by rfl, fun w hSw => by (have hq := HNE.out w; clear hSw; go_simp)⟩) hp0_0 ?_
            simp only [Act.put, List.setIfInBounds_toArray]
            dsimp only [List.set_cons_zero, List.set_cons_succ]
            refine wpZ_done (by kernel_rfl) ?_ _
            have hbj := bStep hbi hlow0
            clear hlow0 HC0 HC2 HNE
            go_wp2
            go_roundw
            case measure => simp [intOf]; omega
            case rel => exact ⟨i + 1, by go_num, by omega, hbj⟩
          · have hii : ¬ (i : Int) < 5 := by omega
            have HBF : Hid (Below wL.heap.size wL wr) := bStep HB5.out hbi
            go_wp2
            go_roundw
            case measure => simp [intOf]; omega
            case rel => exact ⟨r + 1, by go_num, by omega, HBF.out⟩
    · have hri : ¬ (r : Int) < (P : Int) := by omega
      go_wp2
      go_ret
      exact ⟨rfl, HBQ.out⟩
end Go.Proofs.YtfdddpndjmookaaGreatDoor
