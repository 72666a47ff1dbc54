/- LookupProducts of anything. -/
import Derived.Test.YteheloagjkengaaDoorLPD
import Derived.Test.YteheloagjkengaaDoorMLH
import Derived.Test.YteheloagjkengaaDoorLP9
namespace Go.Proofs.YteheloagjkengaaDoor
open Go.RowKit

theorem KU.low {base base2 b : Nat} {w w' : World} (h : KU base2 b w w') (hb : base ≤ base2) : KU base b w w' := ⟨h.1, h.2.1, h.2.2.1, h.2.2.2.1, fun k hk hne => h.2.2.2.2 k (Nat.lt_of_lt_of_le hk hb) hne⟩
theorem lp_all (si k : Int) (cc : Array Value) (be ga : Nat) (o0 : Option Addr) (n0 c0 : Nat) (o1 : Option Addr) (n1 c1 : Nat) (o2 : Option Addr) (n2 c2 : Nat) (o3 : Option Addr) (n3 c3 : Nat) (o6 : Option Addr) (m c6 : Nat) (F0 F1 F2 F3 f : Nat → Nat) (hC : CsV cc (.slice o0 n0 c0) (.slice o1 n1 c1) (.slice o2 n2 c2) (.slice o3 n3 c3) (.slice o6 m c6) be ga) (hN : n0 ≤ 4398046510976 ∧ n1 ≤ 4398046510976 ∧ n2 ≤ 4398046510976 ∧ n3 ≤ 4398046510976) (hm : m ≤ 4398046510976) (hbe : be < 115792089237316195423570985008687907853269984665640564039457584007913129639936) (hga : ga < 115792089237316195423570985008687907853269984665640564039457584007913129639936)
    (hF0 : ∀ i, i < n0 → F0 i < 115792089237316195423570985008687907853269984665640564039457584007913129639936) (hF1 : ∀ i, i < n1 → F1 i < 115792089237316195423570985008687907853269984665640564039457584007913129639936) (hF2 : ∀ i, i < n2 → F2 i < 115792089237316195423570985008687907853269984665640564039457584007913129639936) (hF3 : ∀ i, i < n3 → F3 i < 115792089237316195423570985008687907853269984665640564039457584007913129639936) (hf : ∀ i, i < m → f i < 115792089237316195423570985008687907853269984665640564039457584007913129639936) (w : World) (hg : Glob w) (hE0 : Es w (.slice o0 n0 c0) n0 F0) (hE1 : Es w (.slice o1 n1 c1) n1 F1) (hE2 : Es w (.slice o2 n2 c2) n2 F2) (hE3 : Es w (.slice o3 n3 c3) n3 F3) (hE6 : Es w (.slice o6 m c6) m f) :
    Calls Tryd.prog 3 #[.int .i64 si, .int .i64 k, .agg cc] w fun e w' => e = .returned (.bool true) ∧ Below w.heap.size w w' := by
  by_cases h3 : 300 < n0 + n1 + n2 + n3
  · exact lp_skip si k cc be ga o0 n0 c0 o1 n1 c1 o2 n2 c2 o3 n3 c3 o6 m c6 hC hN h3 w hg
  have h3' : n0 + n1 + n2 + n3 ≤ 300 := by omega
  have walk := fun (er : Int) (nz : Nat) (Fz : Nat → Nat) hnz hFz hp hr => lp_walk si k cc be ga o0 n0 c0 o1 n1 c1 o2 n2 c2 o3 n3 c3 o6 m c6 F0 F1 F2 F3 f Fz er nz hC h3' hm hnz hFz hF0 hF1 hf hp hr w hg hE0 hE1 hE2 hE3 hE6
  by_cases hs : si < 0 ∨ 3 < si
  · refine walk 20 0 (fun _ => 0) (by decide) (fun i hi => by omega) (fun oa ob oc od ca cb cd ce b w hg _ _ _ _ _ _ => (prod_err si k _ _ _ _ be ga b (by omega) w hg).mono ?_) (fun w _ _ _ _ _ => ?_)
    · rintro e w' ⟨rfl, hb⟩
      rw [if_pos (by omega)]
      exact ⟨⟨_, rfl, Or.inl ⟨rfl, rfl⟩, fun h => by omega⟩, (KU.refl _ b w).below hb⟩
    · by_cases h0 : si < 0
      · refine (rprod_s1 si k _ _ _ _ be ga m c6 o6 h0 w).mono ?_
        rintro e w' ⟨rfl, hb⟩
        exact ⟨⟨0, _, rfl, Or.inl ⟨rfl, rfl⟩, fun h => by omega⟩, hb⟩
      · refine (rprod_s2 si k _ _ _ _ be ga m c6 o6 h0 (by omega) w).mono ?_
        rintro e w' ⟨rfl, hb⟩
        exact ⟨⟨0, _, rfl, Or.inl ⟨rfl, rfl⟩, fun h => by omega⟩, hb⟩
  have h0 : ¬ si < 0 := by omega
  have h1 : ¬ 3 < si := by omega
  by_cases hk : k < 3 ∨ 5 < k
  · refine walk 60 0 (fun _ => 0) (by decide) (fun i hi => by omega) (fun oa ob oc od ca cb cd ce b w hg _ _ _ _ _ _ => (prod_err si k _ _ _ _ be ga b (by omega) w hg).mono ?_) (fun w _ _ _ _ _ => ?_)
    · rintro e w' ⟨rfl, hb⟩
      rw [if_neg (by omega)]
      exact ⟨⟨_, rfl, Or.inl ⟨rfl, rfl⟩, fun h => by omega⟩, (KU.refl _ b w).below hb⟩
    · by_cases h2 : k < 3
      · refine (rprod_k1 si k _ _ _ _ be ga m c6 o6 h0 h1 h2 w).mono ?_
        rintro e w' ⟨rfl, hb⟩
        exact ⟨⟨0, _, rfl, Or.inl ⟨rfl, rfl⟩, fun h => by omega⟩, hb⟩
      · refine (rprod_k2 si k _ _ _ _ be ga m c6 o6 h0 h1 h2 (by omega) w).mono ?_
        rintro e w' ⟨rfl, hb⟩
        exact ⟨⟨0, _, rfl, Or.inl ⟨rfl, rfl⟩, fun h => by omega⟩, hb⟩
  obtain ⟨s, rfl⟩ := Int.eq_ofNat_of_zero_le (show 0 ≤ si by omega)
  obtain ⟨q, rfl⟩ := Int.eq_ofNat_of_zero_le (show 0 ≤ k by omega)
  have hs4 : s < 4 := by omega
  have hq : 3 ≤ q ∧ q ≤ 5 := by omega
  have hP : 8 ≤ 2 ^ q ∧ 2 ^ q ≤ 32 := ⟨Nat.pow_le_pow_right (n := 2) (by decide) hq.1, Nat.pow_le_pow_right (n := 2) (by decide) hq.2⟩
  obtain ⟨U, hU⟩ : ∃ U, U = 2 ^ q - 4 := ⟨_, rfl⟩
  have hc : ∀ w, Glob w → Calls Tryd.prog 15 #[.int .i64 (s : Int), .int .i64 (q : Int)] w fun e w' => e = .returned (.int .i64 0) ∧ Below w.heap.size w w' := fun w hg => by
    have h := pck_in s (q : Int) hs4 w hg
    rwa [if_neg (by omega)] at h
  have hu : ∀ w, Calls Tryd.prog 16 #[.int .i64 (q : Int)] w fun e w' => e = .returned (.int .i64 (U : Int)) ∧ w' = w := fun w => by
    have h := usable_any (q : Int) w
    have e2 : (2 : Int) ^ q = ((2 ^ q : Nat) : Int) := by simp
    rw [if_pos (by omega), Int.toNat_natCast, e2, show ((2 ^ q : Nat) : Int) - 4 = (U : Int) by omega] at h
    exact h
  by_cases hne : n0 ≠ U ∨ n1 ≠ U ∨ n2 ≠ U ∨ n3 ≠ U
  · have hx : ∃ i, i < 4 ∧ (fun i => match i with | 0 => n0 | 1 => n1 | 2 => n2 | _ => n3 : Nat → Nat) i ≠ U := by
      rcases hne with h | h | h | h
      · exact ⟨0, by decide, h⟩
      · exact ⟨1, by decide, h⟩
      · exact ⟨2, by decide, h⟩
      · exact ⟨3, by decide, h⟩
    refine walk 50 0 (fun _ => 0) (by decide) (fun i hi => by omega) (fun oa ob oc od ca cb cd ce b w hg _ _ _ _ _ _ => (prod_len (s : Int) (q : Int) U (fun i => match i with | 0 => oa | 1 => ob | 2 => oc | _ => od) (fun i => match i with | 0 => n0 | 1 => n1 | 2 => n2 | _ => n3) (fun i => match i with | 0 => ca | 1 => cb | 2 => cd | _ => ce) be ga b hx w hg hc hu).mono ?_)
      (fun w _ _ _ _ _ => (rprod_len (s : Int) q U hq hU (fun i => match i with | 0 => o0 | 1 => o1 | 2 => o2 | _ => o3) (fun i => match i with | 0 => n0 | 1 => n1 | 2 => n2 | _ => n3) (fun i => match i with | 0 => c0 | 1 => c1 | 2 => c2 | _ => c3) be ga m c6 o6 h0 h1 hx w).mono ?_)
    · rintro e w' ⟨rfl, hb⟩
      exact ⟨⟨_, rfl, Or.inl ⟨rfl, rfl⟩, fun h => by omega⟩, (KU.refl _ b w).below hb⟩
    · rintro e w' ⟨rfl, hb⟩
      exact ⟨⟨0, _, rfl, Or.inl ⟨rfl, rfl⟩, fun h => by omega⟩, hb⟩
  have g0 : n0 = U := by omega
  have g1 : n1 = U := by omega
  have g2 : n2 = U := by omega
  have g3 : n3 = U := by omega
  clear hne
  subst g0
  subst g1
  subst g2
  subst g3
  have hU4 : 4 ≤ n3 ∧ n3 ≤ 28 := by omega
  have hF := fld_in s hs4
  have hR := rfld_in s hs4
  obtain ⟨A, eA⟩ : ∃ A : Nat → Nat, A = fun i => mulP s (addP s (F0 i) be) (addP s (F1 i) ga) := ⟨_, rfl⟩
  obtain ⟨B, eB⟩ : ∃ B : Nat → Nat, B = fun i => mulP s (addP s (F2 i) be) (addP s (F3 i) ga) := ⟨_, rfl⟩
  have hAM : ∀ i, A i < 115792089237316195423570985008687907853269984665640564039457584007913129639936 := fun i => by rw [eA]; exact mulP_M _ _ _
  have hBM : ∀ i, B i < 115792089237316195423570985008687907853269984665640564039457584007913129639936 := fun i => by rw [eB]; exact mulP_M _ _ _
  have hBm : ∀ i, B i < modN s := fun i => by rw [eB]; exact mulP_lt _ _ _
  have el1 : (fun a => addP s a 0) 1 = 1 := by
    show (1 + 0) % modN s = 1
    rw [Nat.add_zero]
    exact Nat.mod_eq_of_lt (modN_odd s).2
  obtain ⟨Z, eZ⟩ : ∃ Z : Nat → Nat, Z = alz (mulP s) (invU (modN s)) ((fun a => addP s a 0) 1) A B := ⟨_, rfl⟩
  have hZ0 : Z 0 = 1 := by rw [eZ]; exact el1
  have hZM : ∀ i, Z i < 115792089237316195423570985008687907853269984665640564039457584007913129639936 := fun i => by
    cases i with
    | zero => rw [hZ0]; decide
    | succ i => rw [eZ]; exact mulP_M _ _ _
  have hzL : alL (mulP s) (invU (modN s)) ((fun a => addP s a 0) 1) A B n3 = zL Z n3 := by rw [eZ]; rfl
  have hIM : ∀ b, invU (modN s) b < 115792089237316195423570985008687907853269984665640564039457584007913129639936 := fun b => lt_M s _ (invU_ltM s b)
  -- the program's side, by what Along answers
  have prog : ∀ (Q : Ending → World → Prop) (oa ob oc od : Option Addr) (ca cb cd ce b : Nat) (w : World), Glob w → Es w (.slice oa n3 ca) n3 F0 → Es w (.slice ob n3 cb) n3 F1 → Es w (.slice oc n3 cd) n3 F2 → Es w (.slice od n3 ce) n3 F3 →
      (∀ g w', Glob w' → Below w.heap.size w w' → RtB w' g n3 A B → Calls Tryd.prog 18 #[.int .i64 (s : Int), .agg #[.int .u64 1, .int .u64 0, .int .u64 0, .int .u64 0], .slice (some ⟨g, 0, none⟩) n3 n3, .pointer (some ⟨b, 0, none⟩)] w' fun e w'' => (∃ x y, e = .returned (.tuple #[x, y])) ∧ Q e w'') →
      Calls Tryd.prog 7 #[.int .i64 (s : Int), .int .i64 (q : Int), .slice oa n3 ca, .slice ob n3 cb, .slice oc n3 cd, .slice od n3 ce, .agg #[.int .u64 ((limb 0 (be) : Nat) : Int), .int .u64 ((limb 1 (be) : Nat) : Int), .int .u64 ((limb 2 (be) : Nat) : Int), .int .u64 ((limb 3 (be) : Nat) : Int)], .agg #[.int .u64 ((limb 0 (ga) : Nat) : Int), .int .u64 ((limb 1 (ga) : Nat) : Int), .int .u64 ((limb 2 (ga) : Nat) : Int), .int .u64 ((limb 3 (ga) : Nat) : Int)], .pointer (some ⟨b, 0, none⟩)] w Q := by
    intro Q oa ob oc od ca cb cd ce b w hg e0 e1 e2 e3 hal
    rcases e0.open with ⟨_, hz, _⟩ | ⟨a0, p0, rfl, _, _, l0, y0⟩
    · omega
    rcases e1.open with ⟨_, hz, _⟩ | ⟨a1, p1, rfl, _, _, l1, y1⟩
    · omega
    rcases e2.open with ⟨_, hz, _⟩ | ⟨a2, p2, rfl, _, _, l2, y2⟩
    · omega
    rcases e3.open with ⟨_, hz, _⟩ | ⟨a3, p3, rfl, _, _, l3, y3⟩
    · omega
    refine prod_ok (s : Int) (q : Int) n3 a0 p0 ca a1 p1 cb a2 p2 cd a3 p3 ce F0 F1 F2 F3 A B be ga b Q (by omega) w hg l0 y0 l1 y1 l2 y2 l3 y3 hc hu (fun ag hA i hi w hg => ?_) (fun ag hA i hi w hg => ?_) hal
    · rw [eA]; exact pair_any hF ag be ga (F0 i) (F1 i) hA hbe hga (hF0 i hi) (hF1 i hi) w hg
    · rw [eB]; exact pair_any hF ag be ga (F2 i) (F3 i) hA hbe hga (hF2 i hi) (hF3 i hi) w hg
  -- the reference's side
  have refe : ∀ w, Es w (.slice o0 n3 c0) n3 F0 → Es w (.slice o1 n3 c1) n3 F1 → Es w (.slice o2 n3 c2) n3 F2 → Es w (.slice o3 n3 c3) n3 F3 → Es w (.slice o6 m c6) m f →
      Calls Tryd.prog 8 #[.int .i64 (s : Int), .int .i64 (q : Int), .slice o0 n3 c0, .slice o1 n3 c1, .slice o2 n3 c2, .slice o3 n3 c3, .agg #[.int .u64 ((limb 0 (be) : Nat) : Int), .int .u64 ((limb 1 (be) : Nat) : Int), .int .u64 ((limb 2 (be) : Nat) : Int), .int .u64 ((limb 3 (be) : Nat) : Int)], .agg #[.int .u64 ((limb 0 (ga) : Nat) : Int), .int .u64 ((limb 1 (ga) : Nat) : Int), .int .u64 ((limb 2 (ga) : Nat) : Int), .int .u64 ((limb 3 (ga) : Nat) : Int)], .agg #[.slice o6 m c6, .int .i64 0]] w fun e w' => RpE w w' n3 m c6 o6 B Z (fun a => addP s a 0) f e ∧ Below w.heap.size w w' := by
    intro w e0 e1 e2 e3 e6
    rcases e0.open with ⟨_, hz, _⟩ | ⟨a0, p0, rfl, _, _, l0, y0⟩
    · omega
    rcases e1.open with ⟨_, hz, _⟩ | ⟨a1, p1, rfl, _, _, l1, y1⟩
    · omega
    rcases e2.open with ⟨_, hz, _⟩ | ⟨a2, p2, rfl, _, _, l2, y2⟩
    · omega
    rcases e3.open with ⟨_, hz, _⟩ | ⟨a3, p3, rfl, _, _, l3, y3⟩
    · omega
    refine rprod_ok (s : Int) q n3 hq hU a0 p0 c0 a1 p1 c1 a2 p2 c2 a3 p3 c3 F0 F1 F2 F3 A B (fun i => mulP s (A i) (invU (modN s) (B i))) Z (fun a => addP s a 0) f be ga m c6 o6 h0 h1 w l0 y0 l1 y1 l2 y2 l3 y3 e6 (by omega) hZ0 (fun i _ => hBM i)
      (fun i hi w => ?_) (fun i hi w => ?_) (fun i hi hb w => ?_) (fun i hi w => ?_) (fun i hi w => ?_)
    · rw [eB]; exact two_any hR (F2 i) be (F3 i) ga (hF2 i hi) hbe (hF3 i hi) hga w
    · rw [eA]; exact two_any hR (F0 i) be (F1 i) ga (hF0 i hi) hbe (hF1 i hi) hga w
    · exact rbyU s (A i) (B i) hs4 (hAM i) (hBM i) (by rw [Nat.mod_eq_of_lt (hBm i)]; exact hb) w
    · have h := hR.2.2 (Z i) (mulP s (A i) (invU (modN s) (B i))) (hZM i) (mulP_M _ _ _) w
      have e : mulP s (Z i) (mulP s (A i) (invU (modN s) (B i))) = Z (i + 1) := by rw [eZ]; rfl
      rwa [e] at h
    · have h := ref2Of_any s (f i) hs4 (hf i hi) w
      rwa [show f i % modN s = addP s (f i) 0 by unfold addP; rw [Nat.add_zero]] at h
  by_cases hz : ∃ i, i < n3 ∧ B i = 0
  · obtain ⟨i, hi, hb0⟩ := hz
    have hpre : pre (modN s) B n3 = 0 := pre_some (modN s) B n3 i hi (by rw [hb0]; exact Nat.zero_mod _)
    refine walk 100 0 (fun _ => 0) (by decide) (fun i hi => by omega) (fun oa ob oc od ca cb cd ce b w hg _ e0 e1 e2 e3 hp => prog _ oa ob oc od ca cb cd ce b w hg e0 e1 e2 e3 (fun g w' hg' hb hr => ?_)) (fun w e0 e1 e2 e3 e6 => (refe w e0 e1 e2 e3 e6).mono ?_)
    · have h := along_bad s n3 g b 1 n3 A B hs4 (by omega) (fun i _ => hBM i) hpre w' hg' hr
      rw [one_agg] at h
      refine h.mono ?_
      rintro e w'' ⟨rfl, hb2⟩
      exact ⟨⟨_, _, rfl⟩, ⟨_, rfl, Or.inl ⟨rfl, rfl⟩, fun h => by omega⟩, (KU.refl _ b w).below (bStep hb hb2)⟩
    · rintro e w' ⟨⟨_, rfl⟩ | ⟨hn, _⟩, hb⟩
      · exact ⟨⟨0, _, rfl, Or.inl ⟨rfl, rfl⟩, fun h => by omega⟩, hb⟩
      · exact absurd hb0 (hn i hi)
  have hnz : ∀ i, i < n3 → B i ≠ 0 := fun i hi h => hz ⟨i, hi, h⟩
  have hpre : pre (modN s) B n3 ≠ 0 := fun h => by
    obtain ⟨i, hi, h2⟩ := pre_zero (modN s) B (modN_prime s) n3 h
    rw [Nat.mod_eq_of_lt (hBm i)] at h2
    exact hnz i hi h2
  have alo := fun (b g : Nat) (w' : World) hg' h2 hr hp => along_ok s n3 g b 1 n3 m A B f hF hs4 (by omega) (by decide) (fun i _ => hAM i) (fun i _ => hBM i) hf hpre w' hg' h2 hr hp
  rw [one_agg, hzL] at alo
  by_cases hm3 : m < 3
  · refine walk 81 0 (fun _ => 0) (by decide) (fun i hi => by omega) (fun oa ob oc od ca cb cd ce b w hg h2 e0 e1 e2 e3 hp => prog _ oa ob oc od ca cb cd ce b w hg e0 e1 e2 e3 (fun g w' hg' hb hr => ?_)) (fun w e0 e1 e2 e3 e6 => (refe w e0 e1 e2 e3 e6).mono ?_)
    · refine (alo b g w' hg' h2 hr (hp.step hb)).mono ?_
      rintro e w'' ⟨⟨_, rfl⟩ | ⟨hm', _⟩, hk⟩
      · exact ⟨⟨_, _, rfl⟩, ⟨_, rfl, Or.inl ⟨rfl, rfl⟩, fun h => by omega⟩, ((KU.refl _ b w).below hb).trans (hk.low hb.size)⟩
      · omega
    · rintro e w' ⟨⟨⟨i, hi, h⟩, _⟩ | ⟨_, ⟨_, j, rfl⟩ | ⟨hm', _⟩⟩, hb⟩
      · exact absurd h (hnz i hi)
      · exact ⟨⟨j, _, rfl, Or.inl ⟨rfl, rfl⟩, fun h => by omega⟩, hb⟩
      · omega
  have hm3' : 3 ≤ m := by omega
  have hlen : (zL Z n3 ++ coinL (fun a => addP s a 0) f 3).length = n3 + 4 := by rw [List.length_append, zL_len, coinL_len]
  refine walk 0 (n3 + 4) (fun i => (zL Z n3 ++ coinL (fun a => addP s a 0) f 3).getD i 0) (by omega) (fun i hi => ?_) (fun oa ob oc od ca cb cd ce b w hg h2 e0 e1 e2 e3 hp => prog _ oa ob oc od ca cb cd ce b w hg e0 e1 e2 e3 (fun g w' hg' hb hr => ?_)) (fun w e0 e1 e2 e3 e6 => (refe w e0 e1 e2 e3 e6).mono ?_)
  · have hall : ∀ x ∈ zL Z n3 ++ coinL (fun a => addP s a 0) f 3, x < 115792089237316195423570985008687907853269984665640564039457584007913129639936 := by
      intro x hx
      rcases List.mem_append.1 hx with h | h
      · obtain ⟨j, _, rfl⟩ := List.mem_map.1 h
        exact hZM j
      · obtain ⟨j, _, rfl⟩ := List.mem_map.1 h
        exact addP_M _ _ _
    exact hall _ (getD_mem (by rw [hlen]; exact hi))
  · refine (alo b g w' hg' h2 hr (hp.step hb)).mono ?_
    rintro e w'' ⟨⟨hm', _⟩ | ⟨_, z, rfl, ho, hpu⟩, hk⟩
    · omega
    · have ez := ho.es
      rw [hlen] at ez
      exact ⟨⟨_, _, rfl⟩, ⟨z, rfl, ez, fun _ => hpu.mono hk.2.2.2.1⟩, ((KU.refl _ b w).below hb).trans (hk.low hb.size)⟩
  · rintro e w' ⟨⟨⟨i, hi, h⟩, _⟩ | ⟨_, ⟨hm', _⟩ | ⟨_, z, rfl, ho⟩⟩, hb⟩
    · exact absurd h (hnz i hi)
    · omega
    · have ez := ho.es
      rw [hlen] at ez
      exact ⟨⟨3, z, rfl, ez, fun _ => ⟨rfl, hm3'⟩⟩, hb⟩
end Go.Proofs.YteheloagjkengaaDoor
