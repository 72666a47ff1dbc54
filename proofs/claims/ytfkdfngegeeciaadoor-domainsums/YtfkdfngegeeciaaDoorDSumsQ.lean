/- DomainSums: for every sort, size, two lists and an element the call returns true: the values of sums are the values' sums; Lagrange's polynomials sum up to 1, and give any polynomial's value anywhere. Condition: the variables of packages field and domain read as the text lays them when the call begins (the card ties them). -/
import Derived.Test.YtfkdfngegeeciaaDoorRows
import Derived.Test.YtfkdfngegeeciaaDoorDG
import Derived.Test.YtfkdfngegeeciaaDoorD34
import Derived.Test.YtfkdfngegeeciaaDoorBA
import Derived.Test.YtfkdfngegeeciaaDoorTie
import Derived.Test.YtfkdfngegeeciaaDoorCards
import Derived.SevenTiedAt
import Derived.SizedLaws
import Derived.ProofKit
import Derived.Laws.IdiomArrays
namespace Go.Proofs.YtfkdfngegeeciaaDoor
open Go.RowKit

theorem lag_samev {s k i x v v' : Nat} (h : LagP s k i x v) (h' : LagP s k i x v') : v = v' := by
  obtain ⟨h1, q, h2, h3⟩ := h
  obtain ⟨g1, p, g2, g3⟩ := h'
  have e1 := fz_inv1 h2
  have e2 := fz_inv1 g2
  have e3 : fz s q = fz s p := by
    have : fz s q * fz s (2 ^ k) * fz s p = fz s p * fz s (2 ^ k) * fz s q := by grind
    rw [e1, e2, Fin.one_mul, Fin.one_mul] at this
    exact this.symm
  refine fz_inj h1 g1 ?_
  rw [h3, g3, e3]
theorem one_nev (a : Nat) : 1 % modN a ≠ 0 := by rw [Nat.mod_eq_of_lt (modN_odd a).2]; decide
/-- The one number that Lagrange answers, for each place. -/
theorem lag_fix (s k x : Nat) : ∃ lF : Nat → Nat, (∀ i, lF i < 115792089237316195423570985008687907853269984665640564039457584007913129639936) ∧ ∀ i v, LagP s k i x v → v = lF i := by
  have h : ∀ i, ∃ l, l < 115792089237316195423570985008687907853269984665640564039457584007913129639936 ∧ ∀ v, LagP s k i x v → v = l := fun i => by
    by_cases h : ∃ l, LagP s k i x l
    · obtain ⟨l, hl⟩ := h
      exact ⟨l, lt_M s _ hl.1, fun v hv => lag_samev hv hl⟩
    · exact ⟨0, by decide, fun v hv => absurd ⟨v, hv⟩ h⟩
  exact ⟨fun i => Classical.choose (h i), fun i => (Classical.choose_spec (h i)).1, fun i => (Classical.choose_spec (h i)).2⟩
theorem val_lt {s k x n : Nat} (f : Nat → Nat) : ∃ V : Nat → Nat, (∀ i, V i < 115792089237316195423570985008687907853269984665640564039457584007913129639936) ∧ (∀ F, ValP s k x n f F → ∀ i, i < 2 ^ k → V i = F i) ∧ ValP s k x n f V := by
  refine ⟨vG s k x n f, fun i => lt_M s _ (vG_lt s k x n f i), fun F h => vG_eq h, fun i _ => ⟨vG_lt s k x n f i, ?_⟩⟩
  refine Fin.ext ?_
  rw [fz_lt (vG_lt s k x n f i)]
  rfl
/-- That Lagrange's numbers there are. -/
theorem lag_is {s k i x : Nat} (hk : k ≤ 9) : ∃ v, LagP s k i x v := by
  have h2 := two_lt s k hk
  have hP := pow9 hk
  have hqn : invU (modN s) (2 ^ k) * 2 ^ k % modN s = 1 := invU_ok (modN_prime s) (by rw [Nat.mod_eq_of_lt h2]; omega)
  refine ⟨(fz s (invU (modN s) (2 ^ k)) * pw2 (fz s x * fp (fz s (rootP s k)) (2 ^ k - i)) k).val, fq_lt _, invU (modN s) (2 ^ k), hqn, ?_⟩
  refine Fin.ext ?_
  rw [fz_lt (fq_lt _)]
theorem sums_walk (s k : Int) (na : Nat) (va : Value) (fa : Nat → Nat) (nb : Nat) (vb : Value) (fb : Nat → Nat) (x : Nat) (hx : x < 115792089237316195423570985008687907853269984665640564039457584007913129639936) (w : World) (hg : GlobD w) (hA : Es w va na fa) (hfa : ∀ i, i < na → fa i < 115792089237316195423570985008687907853269984665640564039457584007913129639936) (hB : Es w vb nb fb) (hfb : ∀ i, i < nb → fb i < 115792089237316195423570985008687907853269984665640564039457584007913129639936) : Calls Tryd.prog 6 #[.int .i64 s, .int .i64 k, va, vb, .agg #[.int .u64 ((limb 0 (x) : Nat) : Int), .int .u64 ((limb 1 (x) : Nat) : Int), .int .u64 ((limb 2 (x) : Nat) : Int), .int .u64 ((limb 3 (x) : Nat) : Int)]] w fun e w' => e = .returned (.bool true) ∧ Below w.heap.size w w' := by
  obtain ⟨oa, ca, rfl⟩ := hA.shape
  obtain ⟨ob, cb, rfl⟩ := hB.shape
  by_cases hE : chkE s k = 0
  · obtain ⟨a, t, rfl, rfl, ha, ht⟩ := chk_zerov hE
    have hP := pow9 ht
    by_cases hfit : na ≤ 2 ^ t ∧ nb ≤ 2 ^ t
    · obtain ⟨lF, hl1, hl2⟩ := lag_fix a t x
      obtain ⟨m, hm⟩ : ∃ m, na ≤ m ∧ nb ≤ m ∧ (m = na ∨ m = nb) := by
        by_cases h : na ≤ nb
        · exact ⟨nb, h, Nat.le_refl _, Or.inr rfl⟩
        · exact ⟨na, Nat.le_refl _, by omega, Or.inl rfl⟩
      have hm2 : m ≤ 2 ^ t := by omega
      obtain ⟨V, hV1, hV2, hV3⟩ := val_lt (s := a) (k := t) (x := 1) (n := na) fa
      obtain ⟨W, hW1, hW2, hW3⟩ := val_lt (s := a) (k := t) (x := 1) (n := nb) fb
      obtain ⟨U, hU1, hU2, hU3⟩ := val_lt (s := a) (k := t) (x := 1) (n := m) (sF a na nb fa fb)
      have hl3 : ∀ i, i < 2 ^ t → LagP a t i x (lF i) := fun i _ => by
        obtain ⟨v, hv⟩ := lag_is (s := a) (i := i) (x := x) ht
        rw [← hl2 i v hv]
        exact hv
      obtain ⟨s1, s2⟩ := lags ht hfit.1 hl3 hV3
      have hT : accF a (fun i => mulP a (lF i) (V i)) (2 ^ t) < modN a := by
        obtain ⟨d, hd⟩ : ∃ d, 2 ^ t = d + 1 := ⟨2 ^ t - 1, by omega⟩
        rw [hd]
        exact addP_lt a _ _
      have hA0 : accF a lF (2 ^ t) < modN a := by
        obtain ⟨d, hd⟩ : ∃ d, 2 ^ t = d + 1 := ⟨2 ^ t - 1, by omega⟩
        rw [hd]
        exact addP_lt a _ _
      have hA1 : accF a lF (2 ^ t) = 1 := fz_inj hA0 (modN_odd a).2 (by rw [accF_fz, s1, fz_one])
      have hTf : fz a (accF a (fun i => mulP a (lF i) (V i)) (2 ^ t)) = pf (fz a x) na (fun j => fz a (fa j)) := by
        rw [accF_fz, ← s2]
        exact fs_congr _ (fun i _ => fz_mul a _ _)
      by_cases hbig : na ≤ 100000
      · refine sums_all a (t : Int) x na ca nb cb 1 oa ob fa fb rfl (2 ^ t) m (accF a (fun i => mulP a (lF i) (V i)) (2 ^ t)) (sF a na nb fa fb) U V W lF ha hP hm (lt_M a _ hT) (fun _ => rfl) hfa hfb (sums_ok hm.1 hm.2.1 hU3 hV3 hW3) (fun i _ => hV1 i) (fun i _ => hW1 i) hl1 hA1 rfl (fun w v hg hv => ?_) (fun w v hg hv => ?_) (fun w v hg hv => ?_) (fun i hi w hg => ?_) (fun w hv => ?_) w hg hA hB
        · refine (dVals_in a t na 1 v fa ha ht (by decide) (one_nev a) hfit.1 hfa w hg hv).mono ?_
          rintro e w' ⟨⟨g, F, rfl, h1, h2, h3⟩, hb⟩
          exact ⟨⟨_, rfl, g, rfl, h2.congr (fun i hi => hV2 F h3 i hi)⟩, hb⟩
        · refine (dVals_in a t nb 1 v fb ha ht (by decide) (one_nev a) hfit.2 hfb w hg hv).mono ?_
          rintro e w' ⟨⟨g, F, rfl, h1, h2, h3⟩, hb⟩
          exact ⟨⟨_, rfl, g, rfl, h2.congr (fun i hi => hW2 F h3 i hi)⟩, hb⟩
        · refine (dVals_in a t m 1 v (sF a na nb fa fb) ha ht (by decide) (one_nev a) hm2 (fun i _ => sF_M a na nb fa fb i) w hg hv).mono ?_
          rintro e w' ⟨⟨g, F, rfl, h1, h2, h3⟩, hb⟩
          exact ⟨⟨_, rfl, g, rfl, h2.congr (fun i hi => hU2 F h3 i hi)⟩, hb⟩
        · refine (dlag_in a t i x ha ht hi hx w hg).mono ?_
          rintro e w' ⟨⟨v, rfl, h⟩, hb⟩
          rw [hl2 i v h]
          exact ⟨rfl, hb⟩
        · refine (rEval_in a na ca x oa fa ha hx hbig hfa w hv).mono ?_
          rintro e w' ⟨⟨y, rfl, h1, h2⟩, hb⟩
          have hy : y < modN a := by
            rcases h1 with h | h
            · exact h
            · rw [h]; exact modN_pos a
          rw [fz_inj hy hT (by rw [h2, hTf])]
          exact ⟨rfl, hb⟩
      · omega
    · refine sums_err (a : Int) (t : Int) (if na ≤ 2 ^ t then 0 else 50) (if nb ≤ 2 ^ t then 0 else 50) x na ca nb cb 1 oa ob fa fb rfl ?_ (fun w v hg hv => ?_) (fun w v hg hv => ?_) w hg hA hB
      · by_cases h : na ≤ 2 ^ t
        · right
          rw [if_neg (fun h2 => hfit ⟨h, h2⟩)]
          decide
        · left
          rw [if_neg h]
          decide
      · by_cases h : na ≤ 2 ^ t
        · rw [if_pos h]
          refine (dVals_in a t na 1 v fa ha ht (by decide) (one_nev a) h hfa w hg hv).mono ?_
          rintro e w' ⟨⟨g, F, rfl, h1, h2, h3⟩, hb⟩
          exact ⟨⟨_, rfl, trivial⟩, hb⟩
        · rw [if_neg h]
          obtain ⟨oc, cc, rfl⟩ := hv.shape
          refine (dVals_len a t na cc 1 oc ha ht (by decide) (one_nev a) (by omega) w hg).mono ?_
          rintro e w' ⟨rfl, hb⟩
          exact ⟨⟨_, rfl, trivial⟩, hb⟩
      · by_cases h : nb ≤ 2 ^ t
        · rw [if_pos h]
          refine (dVals_in a t nb 1 v fb ha ht (by decide) (one_nev a) h hfb w hg hv).mono ?_
          rintro e w' ⟨⟨g, F, rfl, h1, h2, h3⟩, hb⟩
          exact ⟨⟨_, rfl, trivial⟩, hb⟩
        · rw [if_neg h]
          obtain ⟨oc, cc, rfl⟩ := hv.shape
          refine (dVals_len a t nb cc 1 oc ha ht (by decide) (one_nev a) (by omega) w hg).mono ?_
          rintro e w' ⟨rfl, hb⟩
          exact ⟨⟨_, rfl, trivial⟩, hb⟩
  · have hS := shf_chkv (x := 1) hE
    refine sums_err s k (chkE s k) (chkE s k) x na ca nb cb 1 oa ob fa fb rfl (Or.inl hE) (fun w v hg hv => ?_) (fun w v hg hv => ?_) w hg hA hB
    · have h := dVals_err s k 1 v (by decide) (by rw [hS]; exact hE) w hg
      rw [hS] at h
      refine h.mono ?_
      rintro e w' ⟨rfl, hb⟩
      exact ⟨⟨_, rfl, trivial⟩, hb⟩
    · have h := dVals_err s k 1 v (by decide) (by rw [hS]; exact hE) w hg
      rw [hS] at h
      refine h.mono ?_
      rintro e w' ⟨rfl, hb⟩
      exact ⟨⟨_, rfl, trivial⟩, hb⟩
end Go.Proofs.YtfkdfngegeeciaaDoor
namespace Go.Proofs.YtfkdfngegeeciaaDoor
open Go.ChangeShapes Go.WideShapes Go.ChangeAt Go.RowKit
open Go.WideMaps Go.WideElems
open Go.ChangeMaps (setBlock shut_map_nil open_string shut_string keptBut_setBlock frozen?_setBlock heap_setBlock_same)

theorem Tryd.own : ownKnob Tryd.prog.godebug = none := by kernel_rfl
theorem Tryd.cellsU : Tryd.prog.cellsOf 22 = 1 := by kernel_rfl
theorem Tryd.cellsE : Tryd.prog.cellsOf 24 = 4 := by kernel_rfl
theorem list4 {α : Type} (l : List α) (h : (⟨l⟩ : Array α).size = 4) : ∃ a b c d, l = [a, b, c, d] := by
  match l, h with
  | [a, b, c, d], _ => exact ⟨a, b, c, d, rfl⟩
set_option maxRecDepth 100000 in
/-- An array of four words that is read is the words of a number below 2^256. -/
theorem openE {H : Type} {enc : TypeId × Value → H} {W : World} {base : Nat} {v : Value} {d : DataW H} {p : List MemPlace} (hv : Value.okWide Tryd.prog W .any base 24 v) (h : DataW.Trod enc Tryd.prog W 0 (fun _ => true) true 24 v d p) :
    ∃ x : Nat, x < 115792089237316195423570985008687907853269984665640564039457584007913129639936 ∧ v = .agg #[.int .u64 ((limb 0 (x) : Nat) : Int), .int .u64 ((limb 1 (x) : Nat) : Int), .int .u64 ((limb 2 (x) : Nat) : Int), .int .u64 ((limb 3 (x) : Nat) : Int)] ∧ p = [] ∧ d = .agg [.lit (.int .u64 ((limb 0 x : Nat) : Int)), .lit (.int .u64 ((limb 1 x : Nat) : Int)), .lit (.int .u64 ((limb 2 x : Nat) : Int)), .lit (.int .u64 ((limb 3 x : Nat) : Int))] := by
  obtain ⟨cs, rfl, hsz, _⟩ : ∃ cs, v = .agg cs ∧ cs.size = Tryd.prog.cellsOf 24 ∧ Row.okWide Tryd.prog W .any base 24 cs := by
    simpa [Value.okWide, Tryd.underlying24] using hv
  rw [Tryd.cellsE] at hsz
  obtain ⟨l⟩ := cs
  obtain ⟨c0, c1, c2, c3, rfl⟩ := list4 l hsz
  obtain ⟨fuel, hf⟩ := h
  obtain ⟨y0, y1, y2, y3, m, hx, hy0, hy1, hy2, hy3⟩ := trod_array4 Tryd.underlying24 Tryd.cellsU hf
  obtain ⟨x0, e0, rfl, w0⟩ := DataW.trod_int Tryd.underlying22 hy0
  obtain ⟨x1, e1, rfl, w1⟩ := DataW.trod_int Tryd.underlying22 hy1
  obtain ⟨x2, e2, rfl, w2⟩ := DataW.trod_int Tryd.underlying22 hy2
  obtain ⟨x3, e3, rfl, w3⟩ := DataW.trod_int Tryd.underlying22 hy3
  simp at e0 e1 e2 e3
  subst e0 e1 e2 e3
  simp only [Prod.mk.injEq] at hx
  obtain ⟨rfl, rfl⟩ := hx
  have b0 := bounds_u64' w0; have b1 := bounds_u64' w1; have b2 := bounds_u64' w2; have b3 := bounds_u64' w3
  obtain ⟨n0, rfl⟩ := Int.eq_ofNat_of_zero_le b0.1
  obtain ⟨n1, rfl⟩ := Int.eq_ofNat_of_zero_le b1.1
  obtain ⟨n2, rfl⟩ := Int.eq_ofNat_of_zero_le b2.1
  obtain ⟨n3, rfl⟩ := Int.eq_ofNat_of_zero_le b3.1
  have g := limbs_of n0 n1 n2 n3 (by omega) (by omega) (by omega) (by omega) _ rfl
  refine ⟨_, g.2.2.2.2, ?_, rfl, ?_⟩
  · rw [← g.1, ← g.2.1, ← g.2.2.1, ← g.2.2.2.1]
  · rw [← g.1, ← g.2.1, ← g.2.2.1, ← g.2.2.2.1]
set_option maxRecDepth 100000 in
theorem readE {H : Type} {enc : TypeId × Value → H} (W : World) (x : Nat) (sp : Nat → Bool) : DataW.Trod enc Tryd.prog W 0 sp true 24 (.agg #[.int .u64 ((limb 0 (x) : Nat) : Int), .int .u64 ((limb 1 (x) : Nat) : Int), .int .u64 ((limb 2 (x) : Nat) : Int), .int .u64 ((limb 3 (x) : Nat) : Int)]) (DataW.agg [.lit (.int .u64 ((limb 0 x : Nat) : Int)), .lit (.int .u64 ((limb 1 x : Nat) : Int)), .lit (.int .u64 ((limb 2 x : Nat) : Int)), .lit (.int .u64 ((limb 3 x : Nat) : Int))]) [] := by
  have hw : ∀ i, (Lit.int .u64 ((limb i x : Nat) : Int)).wf = true := fun i => wf_limb (limb i x) (limb_lt i x)
  exact ⟨2, by simp [DataW.trod, Value.cells, Tryd.underlying24, Tryd.underlying22, Tryd.cellsE, Tryd.cellsU, hw, show List.range 4 = [0, 1, 2, 3] from rfl]⟩
theorem Tryd.laidOut : laidOutB Tryd.prog = true := by kernel_rfl
set_option maxRecDepth 100000 in
/-- A slice of elements that is read. -/
theorem openL {H : Type} {enc : TypeId × Value → H} {W : World} {base : Nat} {v : Value} {d : DataW H} {p : List MemPlace} (hv : Value.okWide Tryd.prog W .any base 27 v) (h : DataW.Trod enc Tryd.prog W 0 (fun _ => true) true 27 v d p) :
    ∃ (n : Nat) (f : Nat → Nat), Es W v n f ∧ ∀ i, i < n → f i < 115792089237316195423570985008687907853269984665640564039457584007913129639936 := by
  obtain ⟨a0, len, cap, rfl⟩ := okWide_slice Tryd.underlying27 hv
  obtain ⟨fuel, hf⟩ := h
  rcases DataW.trod_slice Tryd.underlying27 hf with ⟨hcs, hx⟩ | ⟨a, len', cap', elems, rest, m, _, hcs, hx, _, hl, hm, hlen, hel, _, _⟩
  · simp [Value.cells] at hcs
    obtain ⟨rfl, rfl, rfl⟩ := hcs
    exact ⟨0, fun _ => 0, Or.inl ⟨rfl, rfl⟩, fun i hi => by omega⟩
  · simp [Value.cells] at hcs
    obtain ⟨rfl, rfl, rfl⟩ := hcs
    have hb : a.block < W.heap.size ∧ a.spot = none := by
      have h1 : Value.okWide Tryd.prog W .any base 27 (.slice (some a) len cap) := hv
      simp only [Value.okWide, Cell.okWide, Cell.ok, Tryd.underlying27] at h1
      obtain ⟨_, _, _, hsp, row, cells, hs, _⟩ := h1
      refine ⟨?_, hsp⟩
      rcases Nat.lt_or_ge a.block W.heap.size with h | h
      · exact h
      · simp [World.shape?, Array.getElem?_eq_none h] at hs
    obtain ⟨hbl, hsp⟩ := hb
    obtain ⟨b, o, sp⟩ := a
    dsimp only at hsp hbl
    subst hsp
    have each : ∀ i, i < len → ∃ x : Nat, x < 115792089237316195423570985008687907853269984665640564039457584007913129639936 ∧ ∀ j, j < 4 → W.cell? ⟨b, o + i * 4 + j, none⟩ = some (.int .u64 ((limb j x : Nat) : Int)) := by
      intro i hi
      have he := hel i hi
      rw [Tryd.cellsE, List.getElem?_eq_getElem (by omega)] at he
      obtain ⟨cs, hcs, ht⟩ := Option.bind_eq_some_iff.1 he
      obtain ⟨_, hcl, hcc⟩ := World.cells?_some hcs
      obtain ⟨c0, c1, c2, c3, rfl⟩ := list4 cs (by simpa using hcl)
      obtain ⟨y0, y1, y2, y3, k, _, hy0, hy1, hy2, hy3⟩ := trod_array4 Tryd.underlying24 Tryd.cellsU ht
      obtain ⟨x0, e0, _, w0⟩ := DataW.trod_int Tryd.underlying22 hy0
      obtain ⟨x1, e1, _, w1⟩ := DataW.trod_int Tryd.underlying22 hy1
      obtain ⟨x2, e2, _, w2⟩ := DataW.trod_int Tryd.underlying22 hy2
      obtain ⟨x3, e3, _, w3⟩ := DataW.trod_int Tryd.underlying22 hy3
      simp at e0 e1 e2 e3
      subst e0 e1 e2 e3
      have b0 := bounds_u64' w0; have b1 := bounds_u64' w1; have b2 := bounds_u64' w2; have b3 := bounds_u64' w3
      obtain ⟨n0, rfl⟩ := Int.eq_ofNat_of_zero_le b0.1
      obtain ⟨n1, rfl⟩ := Int.eq_ofNat_of_zero_le b1.1
      obtain ⟨n2, rfl⟩ := Int.eq_ofNat_of_zero_le b2.1
      obtain ⟨n3, rfl⟩ := Int.eq_ofNat_of_zero_le b3.1
      have g := limbs_of n0 n1 n2 n3 (by omega) (by omega) (by omega) (by omega) _ rfl
      refine ⟨_, g.2.2.2.2, fun j hj => ?_⟩
      have hc := hcc j hj
      have hadd : ((⟨b, o, none⟩ : Addr).add (i * 4)).add j = ⟨b, o + i * 4 + j, none⟩ := by rw [add_plain, add_plain]
      rw [hadd] at hc
      rw [hc]
      have hj4 : j = 0 ∨ j = 1 ∨ j = 2 ∨ j = 3 := by omega
      rcases hj4 with rfl | rfl | rfl | rfl
      · rw [← g.1]; rfl
      · rw [← g.2.1]; rfl
      · rw [← g.2.2.1]; rfl
      · rw [← g.2.2.2.1]; rfl
    refine ⟨len, fun i => if h : i < len then (each i h).choose else 0, Or.inr ⟨b, o, cap, rfl, hl, hm, hbl, fun i hi j hj => ?_⟩, fun i hi => ?_⟩
    · dsimp only
      rw [dif_pos hi]
      exact (each i hi).choose_spec.2 j hj
    · dsimp only
      rw [dif_pos hi]
      exact (each i hi).choose_spec.1
section
variable {H : Type} {enc : TypeId × Value → H} {P : Program} {w : World} {base : Nat} {spare : Nat → Bool} {held : Bool}
theorem trodAll_n5 {t0 t1 t2 t3 t4 : TypeId} {args : Array Value} {ds : List (DataW H)} {ps : List MemPlace} (h : DataW.TrodAll enc P w base spare held [t0, t1, t2, t3, t4] args.toList ds ps) :
    ∃ v0 v1 v2 v3 v4 d0 d1 d2 d3 d4 p0 p1 p2 p3 p4, args = #[v0, v1, v2, v3, v4] ∧ ds = [d0, d1, d2, d3, d4] ∧ ps = (p0 ++ (p1 ++ (p2 ++ (p3 ++ p4)))) ∧ DataW.Trod enc P w base spare held t0 v0 d0 p0 ∧ DataW.Trod enc P w base spare held t1 v1 d1 p1 ∧ DataW.Trod enc P w base spare held t2 v2 d2 p2 ∧ DataW.Trod enc P w base spare held t3 v3 d3 p3 ∧ DataW.Trod enc P w base spare held t4 v4 d4 p4 := by
  obtain ⟨v0, vs0, d0, ds0, p0, q0, hargs, rfl, rfl, hd0, hr0⟩ := trodAll_cons h
  obtain ⟨v1, vs1, d1, ds1, p1, q1, rfl, rfl, rfl, hd1, hr1⟩ := trodAll_cons hr0
  obtain ⟨v2, vs2, d2, ds2, p2, q2, rfl, rfl, rfl, hd2, hr2⟩ := trodAll_cons hr1
  obtain ⟨v3, vs3, d3, ds3, p3, q3, rfl, rfl, rfl, hd3, hr3⟩ := trodAll_cons hr2
  obtain ⟨v4, vs4, d4, ds4, p4, q4, rfl, rfl, rfl, hd4, hr4⟩ := trodAll_cons hr3
  obtain ⟨rfl, rfl, rfl⟩ := trodAll_nil hr4
  exact ⟨v0, v1, v2, v3, v4, d0, d1, d2, d3, d4, p0, p1, p2, p3, p4, by cases args; simp_all, rfl, by simp, hd0, hd1, hd2, hd3, hd4⟩
theorem trodAll_m5 {t0 t1 t2 t3 t4 : TypeId} {v0 v1 v2 v3 v4 : Value} {d0 d1 d2 d3 d4 : DataW H} {p0 p1 p2 p3 p4 : List MemPlace} (h0 : DataW.Trod enc P w base spare held t0 v0 d0 p0) (h1 : DataW.Trod enc P w base spare held t1 v1 d1 p1) (h2 : DataW.Trod enc P w base spare held t2 v2 d2 p2) (h3 : DataW.Trod enc P w base spare held t3 v3 d3 p3) (h4 : DataW.Trod enc P w base spare held t4 v4 d4 p4) : DataW.TrodAll enc P w base spare held [t0, t1, t2, t3, t4] [v0, v1, v2, v3, v4] [d0, d1, d2, d3, d4] (p0 ++ (p1 ++ (p2 ++ (p3 ++ p4)))) := ⟨p0, (p1 ++ (p2 ++ (p3 ++ p4))), h0, trodAll_mk4 h1 h2 h3 h4, rfl⟩
end

/-- The door's own heap meets the condition: closed facts. -/
theorem door_met (os : Os) (args : Array Value) : laidMetH Tryd.prog laidF ((World.doorLaid Tryd.prog 400 os).forCall (fun _ _ => 0) ⟨#[], args, []⟩).memory :=
  laidMetH_of_parts3 (fuel := 8) (laidMet_of_run' 8 (by kernel_rfl) (by kernel_rfl)) (by kernel_rfl) (by kernel_rfl)

set_option maxHeartbeats 1000000 in
set_option maxRecDepth 100000 in
theorem lifted (os : Os) (started : os.Started) (H : Type) (enc : TypeId × Value → H) :
    ReturnsInHanded {} Tryd.checked os 6 .any (fun w args => (Rows.domainSumsSpec.pre enc Tryd.prog Tryd.f6 [] false w args ∧ laidMetH Tryd.prog laidF w) ∧ sizedMet enc Tryd.prog Tryd.f6 (OpenSpec.ofChange Rows.domainSumsSpec) false w args)
      (Rows.domainSumsSpec.post enc Tryd.prog Tryd.f6 false true false false) := by
  refine returnsInHanded_of_change_and (C := Tryd.checked) (X := fun w _ => laidMetH Tryd.prog laidF w) (fun _ _ _ hh h => h.of_heap hh) Tryd.own started (by kernel_rfl) Tryd.func6
    (ChangeSpec.witness_shaped (enc := enc) (C := Tryd.checked) (os := os) (X := fun w _ => laidMetH Tryd.prog laidF w) false (World.doorLaid Tryd.prog 400 os) #[.int .i64 0, .int .i64 0, .slice none 0 0, .slice none 0 0, .agg #[.int .u64 0, .int .u64 0, .int .u64 0, .int .u64 0]] 8 rfl (World.shaped_of_RefB (by kernel_rfl) (by kernel_rfl)) (by kernel_rfl) (by kernel_rfl) (by kernel_rfl) (door_met os _)) ?_
  intro W base args ds gs before hval0 hW _ _ hL _
  have hval : ∀ (j : Nat) t v, Tryd.f6.params[j]? = some t → args[j]? = some v → Value.okWide Tryd.prog W .any base t v := hval0
  have hW' := hW
  obtain ⟨p, q, hA0, hV, rfl, _, _⟩ := hW
  have hA : DataW.TrodAll enc Tryd.prog W 0 (fun _ => true) true Tryd.f6.params.toList args.toList ds p := hA0
  rw [Tryd.params6] at hA hval
  obtain ⟨v0, v1, v2, v3, v4, d0, d1, d2, d3, d4, p0, p1, p2, p3, p4, rfl, rfl, rfl, h0, h1, h2, h3, h4⟩ := trodAll_n5 hA
  obtain ⟨rfl, rfl⟩ := trodVars_none hV
  obtain ⟨x0, rfl, rfl, rfl, hx0⟩ := open_int Tryd.underlying3 (hval 0 3 v0 rfl rfl) h0
  obtain ⟨x1, rfl, rfl, rfl, hx1⟩ := open_int Tryd.underlying3 (hval 1 3 v1 rfl rfl) h1
  have h2k := h2
  obtain ⟨n2, f2, hE2, hf2⟩ := openL (hval 2 27 v2 rfl rfl) h2
  have h3k := h3
  obtain ⟨n3, f3, hE3, hf3⟩ := openL (hval 3 27 v3 rfl rfl) h3
  obtain ⟨x4, hx4, rfl, rfl, rfl⟩ := openE (hval 4 24 v4 rfl rfl) h4
  clear hA0 hval0
  simp only [List.append_nil, List.nil_append] at hW'
  refine (sums_walk x0 x1 n2 v2 f2 n3 v3 f3 x4 hx4 W (globD_of_laid hL) hE2 hf2 hE3 hf3).mono fun e W' ⟨he, hb⟩ => ?_
  subst he
  have r1 : (Rows.domainSumsSpec.fn H ([.lit (.int .i64 x0), .lit (.int .i64 x1), d2, d3, DataW.agg [.lit (.int .u64 ((limb 0 x4 : Nat) : Int)), .lit (.int .u64 ((limb 1 x4 : Nat) : Int)), .lit (.int .u64 ((limb 2 x4 : Nat) : Int)), .lit (.int .u64 ((limb 3 x4 : Nat) : Int))]] ++ [])).results = [.lit (.bool true)] := by simp [Rows.domainSumsSpec]
  have a1 : (Rows.domainSumsSpec.fn H ([.lit (.int .i64 x0), .lit (.int .i64 x1), d2, d3, DataW.agg [.lit (.int .u64 ((limb 0 x4 : Nat) : Int)), .lit (.int .u64 ((limb 1 x4 : Nat) : Int)), .lit (.int .u64 ((limb 2 x4 : Nat) : Int)), .lit (.int .u64 ((limb 3 x4 : Nat) : Int))]] ++ [])).args = [.lit (.int .i64 x0), .lit (.int .i64 x1), d2, d3, DataW.agg [.lit (.int .u64 ((limb 0 x4 : Nat) : Int)), .lit (.int .u64 ((limb 1 x4 : Nat) : Int)), .lit (.int .u64 ((limb 2 x4 : Nat) : Int)), .lit (.int .u64 ((limb 3 x4 : Nat) : Int))]] := by simp [Rows.domainSumsSpec]
  have v1 : (Rows.domainSumsSpec.fn H ([.lit (.int .i64 x0), .lit (.int .i64 x1), d2, d3, DataW.agg [.lit (.int .u64 ((limb 0 x4 : Nat) : Int)), .lit (.int .u64 ((limb 1 x4 : Nat) : Int)), .lit (.int .u64 ((limb 2 x4 : Nat) : Int)), .lit (.int .u64 ((limb 3 x4 : Nat) : Int))]] ++ [])).vars = [] := by simp [Rows.domainSumsSpec]
  refine ⟨_, rfl, _, _, _, [], ([] ++ ([] ++ (p2 ++ (p3 ++ [])))), [], hW', ?_, ?_, ?_, hb.frame _, fun h => by cases h⟩
  · rw [r1]; exact trodAll_mk1 (shut_bool Tryd.underlying4 true)
  · rw [a1]; exact trodAll_m5 (shut_int Tryd.underlying3 hx0) (shut_int Tryd.underlying3 hx1) (Below.trod Tryd.laidOut (by kernel_rfl) (of_decide_eq_true (by kernel_rfl)) h2k hb (fun x hx => by simpa using hW'.lt x (by simp [hx]))) (Below.trod Tryd.laidOut (by kernel_rfl) (of_decide_eq_true (by kernel_rfl)) h3k hb (fun x hx => by simpa using hW'.lt x (by simp [hx]))) (readE W' x4 _)
  · rw [v1]; rfl

theorem domainSums_holds : Rows.DomainSumsSaid :=
  OpenClaim.holds_of_wide 6 Tryd.f6 rfl rfl rfl rfl rfl rfl rfl ⟨rfl, rfl, rfl, rfl, rfl⟩ rfl rfl rfl rfl rfl (by kernel_rfl) Tryd.func6 (by kernel_rfl)
    (of_decide_eq_true (by kernel_rfl)) (by unfold Func.isWrapper; first | (rw [if_pos (by decide +kernel)]; kernel_rfl) | (rw [if_neg (by decide +kernel)]; exact ⟨rfl, rfl⟩))
    (fun os started H enc _ => lifted os started H enc)

/-- The card: the row, its listed variables tied to the program's text. -/
theorem domainSums_card : Rows.DomainSumsCardSaid :=
  Claim7.holds_tied_plain_at .later [] [.data, .data, .data] true (true, "8611424bb60d9d1a9343366327d97874386e148f3f7eb836d7c1b027726c08c5") false
    domainSums_holds (fun _ h => by cases h) (by kernel_rfl) (fun _ h => by cases h) domainSums_row_tie rfl ⟨rfl, rfl⟩ (by kernel_rfl) rfl
    (fun f fn hf hfn => by
      obtain rfl : f = 6 := Option.some.inj ((show Tryd.prog.funcNamed "sigil/sigillaw06.DomainSums" = some 6 by kernel_rfl).symm.trans hf) |>.symm
      obtain rfl : fn = Tryd.f6 := (Option.some.inj (Tryd.func6.symm.trans hfn)).symm
      exact ⟨by kernel_rfl, fun j t ht => by
        rw [Tryd.params6] at ht
        have hm : t ∈ [3, 3, 27, 27, 24] := by simpa using Array.mem_of_getElem? ht
        have hall : ([3, 3, 27, 27, 24].all fun u => !Tryd.prog.wantsStandIn u) = true := by kernel_rfl
        exact (show Tryd.prog.wantsStandIn t = false by simpa using List.all_eq_true.1 hall t hm)⟩)
    (by kernel_rfl)

#print axioms domainSums_card
end Go.Proofs.YtfkdfngegeeciaaDoor
