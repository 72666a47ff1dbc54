/- great of sheet's law; the reference's Fit. -/
import Derived.Test.YtgldibfpidmfhaaGreatDoorUSU
import Derived.Test.YtgldibfpidmfhaaGreatDoorURE
import Derived.Test.YtgldibfpidmfhaaGreatDoorUSS
import Derived.Test.YtgldibfpidmfhaaGreatDoorUST
namespace Go.Proofs.YtgldibfpidmfhaaGreatDoor
open Go.RowKit
def grS (n g l m na nb nc nd : Nat) : Bool := decide (200 < n ∨ 100 < g ∨ 20 < l ∨ 100 < m ∨ 100 < na + nb + nc ∨ 1000 < nd)
set_option maxHeartbeats 8000000 in
set_option maxRecDepth 100000 in
theorem great13_any (F A I : Int) (oN oG oL oE : Option Addr) (n cN g cG l cL m cE : Nat) (oa ob oc od : Option Addr) (na ca nb cb nc cc nd cd : Nat) (ha : na ≤ 1000000000000000) (hb : nb ≤ 1000000000000000) (hc : nc ≤ 1000000000000000) (w : World) : Calls Tryz.prog 6 #[.agg #[.int .i64 F, .int .i64 A, .int .i64 I, .slice oN n cN, .slice oG g cG, .slice oL l cL, .slice oE m cE], .agg #[.slice oa na ca, .slice ob nb cb, .slice oc nc cc, .slice od nd cd]] w fun e w' => e = .returned (.bool (grS n g l m na nb nc nd)) ∧ Below w.heap.size w w' := by
  have HB : Hid (Below w.heap.size w ((w.alloc (.cells #[.int .i64 F, .int .i64 A, .int .i64 I, .slice oN n cN, .slice oG g cG, .slice oL l cL, .slice oE m cE] 27)).alloc (.cells #[.slice oa na ca, .slice ob nb cb, .slice oc nc cc, .slice od nd cd] 31))) := bAlloc (bAlloc (Below.refl _ _) _) _
  have hw1 : IntKind.i64.wrap ((na : Int) + (nb : Int)) = (na : Int) + (nb : Int) := by simp [IntKind.wrap, IntKind.bits, IntKind.signed]; omega
  have hw2 : IntKind.i64.wrap ((na : Int) + (nb : Int) + (nc : Int)) = (na : Int) + (nb : Int) + (nc : Int) := by simp [IntKind.wrap, IntKind.bits, IntKind.signed]; omega
  by_cases h0 : 200 < n
  · have h0' : (200 : Int) < (n : Int) := by omega
    have HP : Hid (grS n g l m na nb nc nd = true) := decide_eq_true (Or.inl h0)
    go_enter Tryz.func6, Tryz.ntmps6
    go_wp2
    go_ret
    exact ⟨by rw [HP.out]; rfl, HB.out⟩
  have h0' : ¬ (200 : Int) < (n : Int) := by omega
  by_cases h1 : 100 < g
  · have h1' : (100 : Int) < (g : Int) := by omega
    have HP : Hid (grS n g l m na nb nc nd = true) := decide_eq_true (Or.inr (Or.inl h1))
    go_enter Tryz.func6, Tryz.ntmps6
    go_wp2
    go_ret
    exact ⟨by rw [HP.out]; rfl, HB.out⟩
  have h1' : ¬ (100 : Int) < (g : Int) := by omega
  by_cases h2 : 20 < l
  · have h2' : (20 : Int) < (l : Int) := by omega
    have HP : Hid (grS n g l m na nb nc nd = true) := decide_eq_true (Or.inr (Or.inr (Or.inl h2)))
    go_enter Tryz.func6, Tryz.ntmps6
    go_wp2
    go_ret
    exact ⟨by rw [HP.out]; rfl, HB.out⟩
  have h2' : ¬ (20 : Int) < (l : Int) := by omega
  by_cases h3 : 100 < m
  · have h3' : (100 : Int) < (m : Int) := by omega
    have HP : Hid (grS n g l m na nb nc nd = true) := decide_eq_true (Or.inr (Or.inr (Or.inr (Or.inl h3))))
    go_enter Tryz.func6, Tryz.ntmps6
    go_wp2
    go_ret
    exact ⟨by rw [HP.out]; rfl, HB.out⟩
  have h3' : ¬ (100 : Int) < (m : Int) := by omega
  by_cases h4 : 100 < na + nb + nc
  · have h4' : (100 : Int) < ((na : Int) + (nb : Int) + (nc : Int)) := by omega
    have HP : Hid (grS n g l m na nb nc nd = true) := decide_eq_true (Or.inr (Or.inr (Or.inr (Or.inr (Or.inl h4)))))
    go_enter Tryz.func6, Tryz.ntmps6
    go_wp2
    go_ret
    exact ⟨by rw [HP.out]; rfl, HB.out⟩
  have h4' : ¬ (100 : Int) < ((na : Int) + (nb : Int) + (nc : Int)) := by omega
  by_cases h5 : 1000 < nd
  · have h5' : (1000 : Int) < (nd : Int) := by omega
    have HP : Hid (grS n g l m na nb nc nd = true) := decide_eq_true (Or.inr (Or.inr (Or.inr (Or.inr (Or.inr (h5))))))
    go_enter Tryz.func6, Tryz.ntmps6
    go_wp2
    go_ret
    exact ⟨by rw [HP.out]; rfl, HB.out⟩
  have h5' : ¬ (1000 : Int) < (nd : Int) := by omega
  have HP : Hid (grS n g l m na nb nc nd = false) := decide_eq_false (fun h => by omega)
  go_enter Tryz.func6, Tryz.ntmps6
  go_wp2
  go_ret
  exact ⟨by rw [HP.out]; rfl, HB.out⟩
end Go.Proofs.YtgldibfpidmfhaaGreatDoor

/- SheetParts' walk. -/
namespace Go.Proofs.YtgldibfpidmfhaaGreatDoor
open Go.RowKit
def fekB (s ck k : Int) (fb : Bool) : Int := if s < 0 ∨ 3 < s then 20 else filE ck k fb
theorem fek_zero {s ck k : Int} {fb : Bool} (h : fekB s ck k fb = 0) : (0 ≤ s ∧ s ≤ 3) ∧ ck = 0 ∧ (3 ≤ k ∧ k ≤ 5) ∧ fb = true := by
  unfold fekB at h
  by_cases h1 : s < 0 ∨ 3 < s
  · rw [if_pos h1] at h; exact absurd h (by decide)
  rw [if_neg h1] at h
  unfold filE at h
  by_cases h2 : ck = 0
  · rw [if_neg (fun h => h h2)] at h
    by_cases h3 : k < 3 ∨ 5 < k
    · rw [if_pos h3] at h; exact absurd h (by decide)
    · rw [if_neg h3] at h
      by_cases h4 : fb = false
      · rw [if_pos h4] at h; exact absurd h (by decide)
      · exact ⟨⟨by omega, by omega⟩, h2, ⟨by omega, by omega⟩, by simpa using h4⟩
  · rw [if_pos h2] at h; exact absurd h h2
theorem cir_zero {cb rb : Bool} (h : cirE cb rb = 0) : cb = true ∧ rb = true := by
  cases cb <;> cases rb
  · exact absurd h (by decide)
  · exact absurd h (by decide)
  · exact absurd h (by decide)
  · exact ⟨rfl, rfl⟩
theorem allF_len (s : Nat) (na : Nat) (La : Nat → Nat) (Ea : Nat → Nat → Nat) (nb : Nat) (Lb : Nat → Nat) (Eb : Nat → Nat → Nat) (nc : Nat) (Lc : Nat → Nat) (Ec : Nat → Nat → Nat) (kn : Nat) (T : Nat → Int × Int × Int × Nat) (n : Nat) (G : Nat → Int) (g : Nat) (ni nt : Nat → Nat) (In Tb : Nat → Nat → Int) (l : Nat) (E : Nat → Int × Int) (P : Nat → Int × Int × Int × Int) (nd : Nat) {F A I : Int} {m : Nat} (h3 : 3 ≤ kn) (h5 : kn ≤ 5) (hrt : rgtB n T F A I g G l ni nt In Tb m E = true) (hd : nd ≤ 1000) : (allF s na La Ea nb Lb Eb nc Lc Ec kn T n G g ni nt In Tb l E P nd).length ≤ 10000 := by
  have hu : 2 ^ kn - 4 ≤ 28 := by
    have hk : kn = 3 ∨ kn = 4 ∨ kn = 5 := by omega
    rcases hk with rfl | rfl | rfl <;> decide
  have h16 := (gatB_true (rgtB_true hrt).2.1).1
  have hl4 : l ≤ 4 := by have h := (rgtB_true hrt).2.2.1; unfold lksB at h; rw [Bool.and_eq_true] at h; exact of_decide_eq_true h.1
  have h1 := gtL_len (fun (r : Nat) i => rowV s na La Ea nb Lb Eb nc Lc Ec kn (r : Int) T n i) G (fun i => rwE true T (kn : Int) (G i).toNat) 28 g (fun j _ => by
    have h := rw_range T (kn : Int) (G j).toNat
    rw [usN_k kn h3 h5] at h
    (try dsimp only)
    omega)
  have h2 := lkL_len (fun (r : Nat) i => rowV s na La Ea nb Lb Eb nc Lc Ec kn (r : Int) T n i) ni nt In Tb (2 ^ kn - 4) l
  have h4 : l * (2 ^ kn - 4) ≤ 4 * 28 := Nat.mul_le_mul hl4 hu
  have h6 := cpL_len (cpD s na La Ea nb Lb Eb nc Lc Ec E P) nd
  unfold allF
  rw [List.length_append, List.length_append]
  omega
end Go.Proofs.YtgldibfpidmfhaaGreatDoor

/- Faults of whatever is handed in, with the empty list where there is an error. -/
namespace Go.Proofs.YtgldibfpidmfhaaGreatDoor
open Go.RowKit
/-- What Faults answers, whatever it is handed. -/
def FauY (e : Ending) (w w' : World) (ek : Int) (xs : List (Int × Int × Int)) : Prop := ∃ o N c, e = .returned (.tuple #[.slice o N c, .int .i64 ek]) ∧ (ek = 0 → FlO w' (.slice o N c) w.heap.size xs ∧ N = xs.length) ∧ (ek ≠ 0 → N = 0)
theorem faults_y (s : Int) (F A I : Int) (oN oG oL oE oa ob oc od : Option Addr) (n cN g cG l cL m cE na ca nb cb nc cc nd cd : Nat) (k : Int) (f : Nat → Value × Value) (ni nt : Nat → Nat) (In Tb : Nat → Nat → Int) (T : Nat → Int × Int × Int × Nat) (G : Nat → Int) (E : Nat → Int × Int) (Fa Fb Fc : Nat → Value) (La Lb Lc : Nat → Nat) (Ea Eb Ec : Nat → Nat → Nat) (P : Nat → Int × Int × Int × Int) (hgn : g ≤ 100000000000000) (hr : Rng F A I m E) (ha : na ≤ 1000000) (hb : nb ≤ 1000000) (hc : nc ≤ 1000000) (hd : nd ≤ 1000000) (hT : ∀ i, i < n → (T i).2.2.2 < 115792089237316195423570985008687907853269984665640564039457584007913129639936) (hrg : ∀ i, i < n → rng (T i).2.1 ∧ rng (T i).2.2.1) (hE : ShR na La Ea nb Lb Eb nc Lc Ec) (w : World) (hg : Glob w) (hci : Cir w (.slice oN n cN) (.slice oG g cG) (.slice oL l cL) (.slice oE m cE) n T g G l f ni nt In Tb m E) (hsh : ShQ w (.slice oa na ca) (.slice ob nb cb) (.slice oc nc cc) (.slice od nd cd) na Fa La Ea nb Fb Lb Eb nc Fc Lc Ec nd P) :
    Calls Tryz.prog 9 #[.int .i64 s, .agg #[.int .i64 F, .int .i64 A, .int .i64 I, .slice oN n cN, .slice oG g cG, .slice oL l cL, .slice oE m cE], .int .i64 k, .agg #[.slice oa na ca, .slice ob nb cb, .slice oc nc cc, .slice od nd cd]] w fun e w' => FauY e w w' (fekB s (cirE (chkB n T F A I) (rgtB n T F A I g G l ni nt In Tb m E)) k (shtB F A I m na nb nc nd La Lb Lc P k)) (allF s.toNat na La Ea nb Lb Eb nc Lc Ec k.toNat T n G g ni nt In Tb l E P nd) ∧ Below w.heap.size w w' := by
  by_cases h1 : s < 0 ∨ 3 < s
  · have e0 : fekB s (cirE (chkB n T F A I) (rgtB n T F A I g G l ni nt In Tb m E)) k (shtB F A I m na nb nc nd La Lb Lc P k) = 20 := if_pos h1
    rw [e0]
    refine (faults_out s (by omega) F A I oN oG oL oE oa ob oc od n cN g cG l cL m cE na ca nb cb nc cc nd cd k w).mono ?_
    rintro e w' ⟨rfl, hb⟩
    exact ⟨⟨none, 0, 0, rfl, fun h => absurd h (by decide), fun _ => rfl⟩, hb⟩
  have e0 : fekB s (cirE (chkB n T F A I) (rgtB n T F A I g G l ni nt In Tb m E)) k (shtB F A I m na nb nc nd La Lb Lc P k) = filE (cirE (chkB n T F A I) (rgtB n T F A I g G l ni nt In Tb m E)) k (shtB F A I m na nb nc nd La Lb Lc P k) := if_neg h1
  obtain ⟨sn, rfl⟩ : ∃ sn : Nat, s = (sn : Int) := ⟨s.toNat, by omega⟩
  by_cases h2 : filE (cirE (chkB n T F A I) (rgtB n T F A I g G l ni nt In Tb m E)) k (shtB F A I m na nb nc nd La Lb Lc P k) = 0
  · have hz := fek_zero (e0.trans h2)
    obtain ⟨kn, rfl⟩ : ∃ kn : Nat, k = (kn : Int) := ⟨k.toNat, by omega⟩
    rw [e0, h2]
    obtain ⟨hcb, hrb⟩ := cir_zero hz.2.1
    refine (faults_all sn (by omega) F A I oN oG oL oE oa ob oc od n cN g cG l cL m cE na ca nb cb nc cc nd cd kn f ni nt In Tb T G E Fa Fb Fc La Lb Lc Ea Eb Ec P hgn hr ha hb hc hd (by omega) (by omega) hcb hrb hz.2.2.2 hT hrg hE w hg hci hsh).mono ?_
    rintro e w' ⟨⟨v, rfl, hv⟩, hb⟩
    obtain ⟨o, c, hs, _⟩ := own_shape hv
    subst hs
    exact ⟨⟨o, _, c, rfl, fun _ => ⟨hv, rfl⟩, fun h => absurd rfl h⟩, hb⟩
  · rw [e0]
    refine (faults_bad sn (by omega) F A I oN oG oL oE oa ob oc od n cN g cG l cL m cE na ca nb cb nc cc nd cd k f ni nt In Tb T G E Fa Fb Fc La Lb Lc Ea Eb Ec P hgn hr ha hb hc hd w hg hci hsh h2).mono ?_
    rintro e w' ⟨rfl, hb⟩
    exact ⟨⟨none, 0, 0, rfl, fun h => absurd h h2, fun _ => rfl⟩, hb⟩
end Go.Proofs.YtgldibfpidmfhaaGreatDoor

