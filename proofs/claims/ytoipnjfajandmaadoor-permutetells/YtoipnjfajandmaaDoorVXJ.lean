/- PermuteTells, by what holds answers where all fits. -/
import Derived.Test.YtoipnjfajandmaaDoorVXK
import Derived.Test.YtoipnjfajandmaaDoorVXI
import Derived.Test.YtoipnjfajandmaaDoorVHW1
import Derived.Test.YtoipnjfajandmaaDoorVXC
namespace Go.Proofs.YtoipnjfajandmaaDoor
open Go.RowKit
theorem Es.cong2 {w : World} {v : Value} {n n' : Nat} {f g : Nat → Nat} (h : Es w v n f) (e : n = n') (hg : ∀ i, i < n → f i = g i) : Es w v n' g := by
  subst e
  rcases h with h | ⟨b, o, c, hv, h1, h2, h3, h4⟩
  · exact Or.inl h
  · exact Or.inr ⟨b, o, c, hv, h1, h2, h3, fun i hi j hj => by rw [← hg i hi]; exact h4 i hi j hj⟩
/-- Does Products fail? -/
def FailP (C mm : Nat) (bad : Nat → Prop) : Prop := ∃ j, j < C ∧ (∀ i, i < j → ¬ bad i) ∧ 3 * j ≤ mm ∧ (bad j ∨ mm < 3 * j + 3)
set_option maxRecDepth 20000 in
theorem pt_all (si k : Int) (om : Option Addr) (m cm : Nat) (on : Option Addr) (n cn : Nat) (oc : Option Addr) (l cl be ga : Nat) (F F2 : Nat → Value) (L L2 : Nat → Nat) (X Y : Nat → Nat → Nat) (f : Nat → Nat) (hl : l ≤ 4398046510976) (hL : ∀ i, i < m → L i ≤ 4398046510976) (hL2 : ∀ i, i < n → L2 i ≤ 4398046510976) (hbe : be < 115792089237316195423570985008687907853269984665640564039457584007913129639936) (hga : ga < 115792089237316195423570985008687907853269984665640564039457584007913129639936) (hX : ∀ r i, i < m → X i r < 115792089237316195423570985008687907853269984665640564039457584007913129639936) (hY : ∀ r i, i < n → Y i r < 115792089237316195423570985008687907853269984665640564039457584007913129639936) (hf : ∀ i, i < l → f i < 115792089237316195423570985008687907853269984665640564039457584007913129639936)
    (w : World) (hg : GlobD w) (e1 : Tab w (.slice om m cm) m F L X) (e2 : Tab w (.slice on n cn) n F2 L2 Y) (e3 : Es w (.slice oc l cl) l f)
    (hho : ∀ s q : Nat, s < 2 → 3 ≤ q ∧ q ≤ 5 → n = m → 0 < m ∧ m ≤ 8 → (∀ i, i < m → L i = 2 ^ q) → (∀ i, i < m → L2 i = 2 ^ q) → (∀ j, j < (m + 1) / 2 → ¬ badP s be ga m (2 ^ q - 4) X Y j) → ∀ (T : Nat) (zs : Nat → Value) w', GlobD w' → Below w.heap.size w w' → SlT 32 w' T ((m + 1) / 2) zs → (∀ j, j < (m + 1) / 2 → Es w' (zs j) (2 ^ q) (zvP s be ga m (2 ^ q - 4) X Y (fun r => expP s (rootP s q) r) f j)) → Calls Tryd.prog 17 #[.int .i64 (s : Int), .int .i64 (q : Int), .slice om m cm, .slice on m cn, .slice (some ⟨T, 0, none⟩) ((m + 1) / 2) ((m + 1) / 2), .agg #[.int .u64 ((limb 0 (be) : Nat) : Int), .int .u64 ((limb 1 (be) : Nat) : Int), .int .u64 ((limb 2 (be) : Nat) : Int), .int .u64 ((limb 3 (be) : Nat) : Int)], .agg #[.int .u64 ((limb 0 (ga) : Nat) : Int), .int .u64 ((limb 1 (ga) : Nat) : Int), .int .u64 ((limb 2 (ga) : Nat) : Int), .int .u64 ((limb 3 (ga) : Nat) : Int)]] w' fun e w'' => e = .returned (.bool (decide (zvP s be ga m (2 ^ q - 4) X Y (fun r => expP s (rootP s q) r) f ((m + 1) / 2 - 1) (2 ^ q - 4) = 0 ∨ zvP s be ga m (2 ^ q - 4) X Y (fun r => expP s (rootP s q) r) f ((m + 1) / 2 - 1) (2 ^ q - 4) = 1))) ∧ Below w'.heap.size w' w'') :
    Calls Tryd.prog 5 #[.int .i64 si, .int .i64 k, .slice om m cm, .slice on n cn, .agg #[.int .u64 ((limb 0 (be) : Nat) : Int), .int .u64 ((limb 1 (be) : Nat) : Int), .int .u64 ((limb 2 (be) : Nat) : Int), .int .u64 ((limb 3 (be) : Nat) : Int)], .agg #[.int .u64 ((limb 0 (ga) : Nat) : Int), .int .u64 ((limb 1 (ga) : Nat) : Int), .int .u64 ((limb 2 (ga) : Nat) : Int), .int .u64 ((limb 3 (ga) : Nat) : Int)], .slice oc l cl] w fun e w' => e = .returned (.bool true) ∧ Below w.heap.size w w' := by
  by_cases hsk : 20 < m ∨ 20 < n ∨ si < 0 ∨ 1 < si
  · exact pt_skip si k om m cm on n cn oc l cl be ga hsk w hg
  obtain ⟨s, rfl⟩ := Int.eq_ofNat_of_zero_le (show 0 ≤ si by omega)
  have hs2 : s < 2 := by omega
  have hs4 : s < 4 := by omega
  have hm : m ≤ 20 := by omega
  have hn : n ≤ 20 := by omega
  have early := fun hp => pt_early s k om m cm on n cn oc l cl be ga F F2 L L2 X Y f hs2 hm hn hl hL hL2 hp w hg e1 e2 e3
  have toKU : ∀ (b : Nat) (w w' : World), Below w.heap.size w w' → KU w.heap.size b w w' := fun b w w' h => (KU.refl _ _ _).below h
  by_cases hk : k < 3 ∨ 5 < k
  · refine early (fun oa ob ca cb b Fa Fb w' hg' _ _ _ _ => (pprod_size_out s k m n ca cb b be ga oa ob hs4 hk w' hg').mono ?_)
    rintro e w2 ⟨rfl, hb⟩
    exact ⟨⟨_, _, rfl, Or.inl (by decide)⟩, toKU _ _ _ hb⟩
  obtain ⟨q, rfl⟩ := Int.eq_ofNat_of_zero_le (show 0 ≤ k by omega)
  have hq : 3 ≤ q ∧ q ≤ 5 := by omega
  by_cases hbad : n ≠ m ∨ 8 < m ∨ (¬ ∀ i, i < m → L i = 2 ^ q) ∨ ¬ ∀ i, i < n → L2 i = 2 ^ q
  · refine early (fun oa ob ca cb b Fa Fb w' hg' _ tA tB _ => (pprod_len_out s q m n ca cb b be ga oa ob Fa Fb L L2 X Y hs4 hq (by omega) (by omega) hbad w' hg' tA tB).mono ?_)
    rintro e w2 ⟨rfl, hb⟩
    exact ⟨⟨_, _, rfl, Or.inl (by decide)⟩, toKU _ _ _ hb⟩
  have hnm : n = m := by omega
  have hm8 : m ≤ 8 := by omega
  have hLq : ∀ i, i < m → L i = 2 ^ q := Classical.byContradiction fun h => hbad (Or.inr (Or.inr (Or.inl h)))
  have hLq2 : ∀ i, i < n → L2 i = 2 ^ q := Classical.byContradiction fun h => hbad (Or.inr (Or.inr (Or.inr h)))
  clear hbad
  subst hnm
  have hpp := fun (oa ob : Option Addr) (ca cb b : Nat) (Fa Fb : Nat → Value) (w' : World) (hg' : GlobD w') (h3 : 3 ≤ b) (tA : Tab w' (.slice oa n ca) n Fa L X) (tB : Tab w' (.slice ob n cb) n Fb L2 Y) (hp : PurseS w' w'.heap.size b l f) => pprod_in s q n b ca cb be ga l oa ob Fa Fb L L2 X Y f hs4 hq hm8 hbe hga hX hY hf hLq hLq2 w' hg' h3 tA tB hp
  by_cases hfail : FailP ((n + 1) / 2) l (badP s be ga n (2 ^ q - 4) X Y)
  · obtain ⟨j, hj, hgd, h3j, hor⟩ := hfail
    refine early (fun oa ob ca cb b Fa Fb w' hg' h3 tA tB hp => (hpp oa ob ca cb b Fa Fb w' hg' h3 tA tB hp).mono ?_)
    rintro e w2 ⟨⟨wc, _, ⟨i, er, _, _, _, her, rfl⟩ | ⟨hall, hC, _⟩⟩, hku⟩
    · refine ⟨⟨_, _, rfl, Or.inl ?_⟩, hku⟩
      rcases her with ⟨_, rfl⟩ | ⟨_, _, rfl⟩ <;> decide
    · rcases hor with h | h
      · exact absurd h (hall j hj)
      · omega
  have hno : ∀ i, i < (n + 1) / 2 → ¬ badP s be ga n (2 ^ q - 4) X Y i ∧ 3 * i + 3 ≤ l := by
    intro i
    induction i using Nat.strongRecOn with
    | _ i ih =>
      intro hi
      have h3 : 3 * i ≤ l := by
        cases i with
        | zero => omega
        | succ i => have := (ih i (by omega) (by omega)).2; omega
      have hall : ∀ j, j < i → ¬ badP s be ga n (2 ^ q - 4) X Y j := fun j hj => (ih j hj (by omega)).1
      refine ⟨fun hb => hfail ⟨i, hi, hall, h3, Or.inl hb⟩, ?_⟩
      by_cases h : l < 3 * i + 3
      · exact absurd ⟨i, hi, hall, h3, Or.inr h⟩ hfail
      · omega
  by_cases hn0 : n = 0
  · refine early (fun oa ob ca cb b Fa Fb w' hg' h3 tA tB hp => (hpp oa ob ca cb b Fa Fb w' hg' h3 tA tB hp).mono ?_)
    rintro e w2 ⟨⟨wc, _, ⟨i, er, hi, _⟩ | ⟨_, _, T, zs, rfl, _⟩⟩, hku⟩
    · omega
    · refine ⟨⟨_, _, rfl, Or.inr ⟨T, ?_⟩⟩, hku⟩
      rw [hn0]
  refine pt_walk s q ((n + 1) / 2) om n cm on n cn oc l cl be ga F F2 L L2 X Y f hs2 hm hn hl hL hL2 (zvP s be ga n (2 ^ q - 4) X Y (fun r => expP s (rootP s q) r) f) _ hq (by omega) (lt_M s _ (zvP_lt _ _)) rfl (fun oa ob ca cb b Fa Fb w' hg' h3 tA tB hp => (hpp oa ob ca cb b Fa Fb w' hg' h3 tA tB hp).mono ?_) w hg e1 e2 e3 (hho s q hs2 hq rfl ⟨by omega, hm8⟩ hLq hLq2 (fun j hj => (hno j hj).1))
  rintro e w2 ⟨⟨wc, _, ⟨i, er, hi, hgi, h3i, her, _⟩ | ⟨_, _, T, zs, rfl, _, hS, hO, _⟩⟩, hku⟩
  · have h := hno i hi
    rcases her with ⟨hb, _⟩ | ⟨_, hlt, _⟩
    · exact absurd hb h.1
    · omega
  · refine ⟨⟨T, zs, rfl, hS, fun j hj => ?_⟩, hku⟩
    have hP : 8 ≤ 2 ^ q := Nat.pow_le_pow_right (n := 2) (by decide) hq.1
    have hlen : (zlP s be ga n (2 ^ q - 4) X Y (fun r => expP s (rootP s q) r) j ++ coinL (fun v => addP s v 0) (fun i => f (i + 3 * j)) 3).length = 2 ^ q := by
      rw [List.length_append, coinL_len]
      show (alL _ _ _ _ _ _).length + 3 = _
      rw [alL_len]; omega
    exact (hO j hj).es.cong2 hlen (fun i hi => zlP_at j i (by omega))
end Go.Proofs.YtoipnjfajandmaaDoor

/- PermuteTells of anything. -/
namespace Go.Proofs.YtoipnjfajandmaaDoor
open Go.RowKit
theorem ckL_len (s be ga x fi la us n m : Nat) (A D At Nx La : Nat → Nat) : (ckL s be ga x fi la us n m A D At Nx La).length = m + 1 + m ∨ 0 < (ckL s be ga x fi la us n m A D At Nx La).length := by
  refine Or.inr ?_
  unfold ckL
  rw [List.length_append, List.length_append, List.length_singleton]
  omega
set_option maxHeartbeats 4000000 in
set_option maxRecDepth 20000 in
theorem holds_in (s q n C cm cn be ga : Nat) (om on : Option Addr) (F F2 : Nat → Value) (L L2 : Nat → Nat) (X Y : Nat → Nat → Nat) (f : Nat → Nat) (hs : s < 2) (hq : 3 ≤ q ∧ q ≤ 5) (hn : 0 < n ∧ n ≤ 8) (hC : C = (n + 1) / 2) (hL : ∀ i, i < n → L i = 2 ^ q) (hL2 : ∀ i, i < n → L2 i = 2 ^ q) (hbad : ∀ j, j < C → ¬ badP s be ga n (2 ^ q - 4) X Y j) (hbe : be < 115792089237316195423570985008687907853269984665640564039457584007913129639936) (hga : ga < 115792089237316195423570985008687907853269984665640564039457584007913129639936) (hX : ∀ r i, i < n → X i r < 115792089237316195423570985008687907853269984665640564039457584007913129639936) (hY : ∀ r i, i < n → Y i r < 115792089237316195423570985008687907853269984665640564039457584007913129639936) (T : Nat) (zs : Nat → Value)
    (w : World) (hg : GlobD w) (e1 : Tab w (.slice om n cm) n F L X) (e2 : Tab w (.slice on n cn) n F2 L2 Y) (hS : SlT 32 w T C zs) (hz : ∀ j, j < C → Es w (zs j) (2 ^ q) (zvP s be ga n (2 ^ q - 4) X Y (fun r => expP s (rootP s q) r) f j)) :
    Calls Tryd.prog 17 #[.int .i64 (s : Int), .int .i64 (q : Int), .slice om n cm, .slice on n cn, .slice (some ⟨T, 0, none⟩) C C, .agg #[.int .u64 ((limb 0 (be) : Nat) : Int), .int .u64 ((limb 1 (be) : Nat) : Int), .int .u64 ((limb 2 (be) : Nat) : Int), .int .u64 ((limb 3 (be) : Nat) : Int)], .agg #[.int .u64 ((limb 0 (ga) : Nat) : Int), .int .u64 ((limb 1 (ga) : Nat) : Int), .int .u64 ((limb 2 (ga) : Nat) : Int), .int .u64 ((limb 3 (ga) : Nat) : Int)]] w fun e w' => e = .returned (.bool (decide (zvP s be ga n (2 ^ q - 4) X Y (fun r => expP s (rootP s q) r) f (C - 1) (2 ^ q - 4) = 0 ∨ zvP s be ga n (2 ^ q - 4) X Y (fun r => expP s (rootP s q) r) f (C - 1) (2 ^ q - 4) = 1))) ∧ Below w.heap.size w w' := by
  have hP8 : 8 ≤ 2 ^ q ∧ 2 ^ q ≤ 32 := ⟨Nat.pow_le_pow_right (n := 2) (by decide) hq.1, Nat.pow_le_pow_right (n := 2) (by decide) hq.2⟩
  have hs4 : s < 4 := by omega
  have hy : ∀ c : Prop, [Decidable c] → (if c then 1 else 0 : Nat) < 115792089237316195423570985008687907853269984665640564039457584007913129639936 := fun c _ => by split <;> decide
  have hpM : ∀ r, expP s (rootP s q) r < 115792089237316195423570985008687907853269984665640564039457584007913129639936 := fun r => lt_M s _ (expP_lt _ _ _)
  have hzM : ∀ j i, zvP s be ga n (2 ^ q - 4) X Y (fun r => expP s (rootP s q) r) f j i < 115792089237316195423570985008687907853269984665640564039457584007913129639936 := fun j i => lt_M s _ (zvP_lt j i)
  have hck : ∀ r, ckA (s : Int) be ga (expP s (rootP s q) r) (if 0 = r then 1 else 0) (if 2 ^ q - 4 = r then 1 else 0) (if r < 2 ^ q - 4 then 1 else 0) n n C (fun i => X i r) (fun i => Y i r) (fun j => zvP s be ga n (2 ^ q - 4) X Y (fun r => expP s (rootP s q) r) f j r) (fun j => zvP s be ga n (2 ^ q - 4) X Y (fun r => expP s (rootP s q) r) f j ((r + 1) % 2 ^ q)) (fun j => zvP s be ga n (2 ^ q - 4) X Y (fun r => expP s (rootP s q) r) f j ((r + 2 ^ q - 4) % 2 ^ q)) = ckL s be ga (expP s (rootP s q) r) (if 0 = r then 1 else 0) (if 2 ^ q - 4 = r then 1 else 0) (if r < 2 ^ q - 4 then 1 else 0) n C (fun i => X i r) (fun i => Y i r) (fun j => zvP s be ga n (2 ^ q - 4) X Y (fun r => expP s (rootP s q) r) f j r) (fun j => zvP s be ga n (2 ^ q - 4) X Y (fun r => expP s (rootP s q) r) f j ((r + 1) % 2 ^ q)) (fun j => zvP s be ga n (2 ^ q - 4) X Y (fun r => expP s (rootP s q) r) f j ((r + 2 ^ q - 4) % 2 ^ q)) := fun r => by
    unfold ckA
    rw [if_pos (by omega), Int.toNat_natCast]
  have tell := fun r => tells_row (s := s) (be := be) (ga := ga) (n := n) (C := C) (u := 2 ^ q - 4) (r := r) (X := X) (Y := Y) (pt := fun r => expP s (rootP s q) r) (f := f) (At := fun j => zvP s be ga n (2 ^ q - 4) X Y (fun r => expP s (rootP s q) r) f j r) (Nx := fun j => zvP s be ga n (2 ^ q - 4) X Y (fun r => expP s (rootP s q) r) f j ((r + 1) % 2 ^ q)) (La := fun j => zvP s be ga n (2 ^ q - 4) X Y (fun r => expP s (rootP s q) r) f j ((r + 2 ^ q - 4) % 2 ^ q)) hn.1 hC hbad (fun _ => rfl)
    (fun hr j => by rw [Nat.mod_eq_of_lt (show r + 1 < 2 ^ q by omega)]) (fun hr j => by subst hr; rw [Nat.zero_add, Nat.mod_eq_of_lt (show 2 ^ q - 4 < 2 ^ q by omega)])
  refine holds_walk s q n C cm cn T be ga om on F F2 L L2 X Y (fun j i => zvP s be ga n (2 ^ q - 4) X Y (fun r => expP s (rootP s q) r) f j i) zs (fun r => expP s (rootP s q) r) (fun r => expP s (rootP s q) r) (fun r => if 0 = r then 1 else 0) (fun r => if 2 ^ q - 4 = r then 1 else 0) (fun r => if r < 2 ^ q - 4 then 1 else 0) (fun r => ckL s be ga (expP s (rootP s q) r) (if 0 = r then 1 else 0) (if 2 ^ q - 4 = r then 1 else 0) (if r < 2 ^ q - 4 then 1 else 0) n C (fun i => X i r) (fun i => Y i r) (fun j => zvP s be ga n (2 ^ q - 4) X Y (fun r => expP s (rootP s q) r) f j r) (fun j => zvP s be ga n (2 ^ q - 4) X Y (fun r => expP s (rootP s q) r) f j ((r + 1) % 2 ^ q)) (fun j => zvP s be ga n (2 ^ q - 4) X Y (fun r => expP s (rootP s q) r) f j ((r + 2 ^ q - 4) % 2 ^ q))) _ hq hn (by omega) hL hL2
    (fun w hg => dPts_in s q hs4 (by omega) w hg) (fun r hr w hg => ?_) (fun r hr v1 v2 v3 w hg h1 h2 h3 => ?_) (fun r => ?_) ?_ w hg e1 e2 hS hz
  · have h := place_in s q (2 ^ q - 4) (expP s (rootP s q) r) hs4 hq rfl (hpM r) w hg
    rw [lagV_at (by omega) (by omega) hr, lagV_at (by omega) (by omega) hr, sm_at (by omega) hr (2 ^ q - 4) (by omega), addP_zero (expP_lt _ _ _)] at h
    exact h
  · have h := pchks_any (s : Int) n n C be ga (expP s (rootP s q) r) (if 0 = r then 1 else 0) (if 2 ^ q - 4 = r then 1 else 0) (if r < 2 ^ q - 4 then 1 else 0) #[.int .u64 ((limb 0 (expP s (rootP s q) r) : Nat) : Int), .int .u64 ((limb 1 (expP s (rootP s q) r) : Nat) : Int), .int .u64 ((limb 2 (expP s (rootP s q) r) : Nat) : Int), .int .u64 ((limb 3 (expP s (rootP s q) r) : Nat) : Int), .int .u64 ((limb 0 (if 0 = r then 1 else 0) : Nat) : Int), .int .u64 ((limb 1 (if 0 = r then 1 else 0) : Nat) : Int), .int .u64 ((limb 2 (if 0 = r then 1 else 0) : Nat) : Int), .int .u64 ((limb 3 (if 0 = r then 1 else 0) : Nat) : Int), .int .u64 ((limb 0 (if 2 ^ q - 4 = r then 1 else 0) : Nat) : Int), .int .u64 ((limb 1 (if 2 ^ q - 4 = r then 1 else 0) : Nat) : Int), .int .u64 ((limb 2 (if 2 ^ q - 4 = r then 1 else 0) : Nat) : Int), .int .u64 ((limb 3 (if 2 ^ q - 4 = r then 1 else 0) : Nat) : Int), .int .u64 ((limb 0 (if r < 2 ^ q - 4 then 1 else 0) : Nat) : Int), .int .u64 ((limb 1 (if r < 2 ^ q - 4 then 1 else 0) : Nat) : Int), .int .u64 ((limb 2 (if r < 2 ^ q - 4 then 1 else 0) : Nat) : Int), .int .u64 ((limb 3 (if r < 2 ^ q - 4 then 1 else 0) : Nat) : Int)] (fun i => X i r) (fun i => Y i r) (fun j => zvP s be ga n (2 ^ q - 4) X Y (fun r => expP s (rootP s q) r) f j r) (fun j => zvP s be ga n (2 ^ q - 4) X Y (fun r => expP s (rootP s q) r) f j ((r + 1) % 2 ^ q)) (fun j => zvP s be ga n (2 ^ q - 4) X Y (fun r => expP s (rootP s q) r) f j ((r + 2 ^ q - 4) % 2 ^ q)) (by omega) ⟨rfl, ⟨rfl, rfl, rfl, rfl⟩, ⟨rfl, rfl, rfl, rfl⟩, ⟨rfl, rfl, rfl, rfl⟩, ⟨rfl, rfl, rfl, rfl⟩⟩ (hpM r) (hy _) (hy _) (hy _) hbe hga (hX r) (hY r) (fun j _ => ⟨hzM _ _, hzM _ _, hzM _ _⟩) v1 v2 v3 w hg.1 h1 h2 h3
    rw [hck r] at h
    exact h
  · have h := ckA_M (s : Int) n n C be ga (expP s (rootP s q) r) (if 0 = r then 1 else 0) (if 2 ^ q - 4 = r then 1 else 0) (if r < 2 ^ q - 4 then 1 else 0) (fun i => X i r) (fun i => Y i r) (fun j => zvP s be ga n (2 ^ q - 4) X Y (fun r => expP s (rootP s q) r) f j r) (fun j => zvP s be ga n (2 ^ q - 4) X Y (fun r => expP s (rootP s q) r) f j ((r + 1) % 2 ^ q)) (fun j => zvP s be ga n (2 ^ q - 4) X Y (fun r => expP s (rootP s q) r) f j ((r + 2 ^ q - 4) % 2 ^ q)) (by omega)
    rw [hck r] at h
    refine ⟨?_, h.1, fun i => ?_⟩
    · rcases ckL_len s be ga (expP s (rootP s q) r) (if 0 = r then 1 else 0) (if 2 ^ q - 4 = r then 1 else 0) (if r < 2 ^ q - 4 then 1 else 0) n C (fun i => X i r) (fun i => Y i r) (fun j => zvP s be ga n (2 ^ q - 4) X Y (fun r => expP s (rootP s q) r) f j r) (fun j => zvP s be ga n (2 ^ q - 4) X Y (fun r => expP s (rootP s q) r) f j ((r + 1) % 2 ^ q)) (fun j => zvP s be ga n (2 ^ q - 4) X Y (fun r => expP s (rootP s q) r) f j ((r + 2 ^ q - 4) % 2 ^ q)) with h | h
      · rw [h]; omega
      · exact h
    · rcases Nat.lt_or_ge i (ckL s be ga (expP s (rootP s q) r) (if 0 = r then 1 else 0) (if 2 ^ q - 4 = r then 1 else 0) (if r < 2 ^ q - 4 then 1 else 0) n C (fun i => X i r) (fun i => Y i r) (fun j => zvP s be ga n (2 ^ q - 4) X Y (fun r => expP s (rootP s q) r) f j r) (fun j => zvP s be ga n (2 ^ q - 4) X Y (fun r => expP s (rootP s q) r) f j ((r + 1) % 2 ^ q)) (fun j => zvP s be ga n (2 ^ q - 4) X Y (fun r => expP s (rootP s q) r) f j ((r + 2 ^ q - 4) % 2 ^ q))).length with hi | hi
      · exact h.2 i hi
      · rw [List.getD_eq_getElem?_getD, List.getElem?_eq_none hi]; decide
  · constructor
    · intro h r hr
      exact (tell r).2 (fun _ => of_decide_eq_true h)
    · intro h
      exact decide_eq_true ((tell (2 ^ q - 4)).1 (h (2 ^ q - 4) (by omega)) rfl)
set_option maxRecDepth 20000 in
theorem pt_any (si k : Int) (om : Option Addr) (m cm : Nat) (on : Option Addr) (n cn : Nat) (v : Value) (l be ga : Nat) (F F2 : Nat → Value) (L L2 : Nat → Nat) (X Y : Nat → Nat → Nat) (f : Nat → Nat) (hl : l ≤ 4398046510976) (hL : ∀ i, i < m → L i ≤ 4398046510976) (hL2 : ∀ i, i < n → L2 i ≤ 4398046510976) (hbe : be < 115792089237316195423570985008687907853269984665640564039457584007913129639936) (hga : ga < 115792089237316195423570985008687907853269984665640564039457584007913129639936) (hX : ∀ r i, i < m → X i r < 115792089237316195423570985008687907853269984665640564039457584007913129639936) (hY : ∀ r i, i < n → Y i r < 115792089237316195423570985008687907853269984665640564039457584007913129639936) (hf : ∀ i, i < l → f i < 115792089237316195423570985008687907853269984665640564039457584007913129639936)
    (w : World) (hg : GlobD w) (e1 : Tab w (.slice om m cm) m F L X) (e2 : Tab w (.slice on n cn) n F2 L2 Y) (e3 : Es w v l f) :
    Calls Tryd.prog 5 #[.int .i64 si, .int .i64 k, .slice om m cm, .slice on n cn, .agg #[.int .u64 ((limb 0 (be) : Nat) : Int), .int .u64 ((limb 1 (be) : Nat) : Int), .int .u64 ((limb 2 (be) : Nat) : Int), .int .u64 ((limb 3 (be) : Nat) : Int)], .agg #[.int .u64 ((limb 0 (ga) : Nat) : Int), .int .u64 ((limb 1 (ga) : Nat) : Int), .int .u64 ((limb 2 (ga) : Nat) : Int), .int .u64 ((limb 3 (ga) : Nat) : Int)], v] w fun e w' => e = .returned (.bool true) ∧ Below w.heap.size w w' := by
  obtain ⟨oc, cl, rfl⟩ := e3.shape
  refine pt_all si k om m cm on n cn oc l cl be ga F F2 L L2 X Y f hl hL hL2 hbe hga hX hY hf w hg e1 e2 e3 (fun s q hs hq hnm hm hLq hLq2 hbad T zs w' hg' hb hS hz => ?_)
  subst hnm
  exact holds_in s q n ((n + 1) / 2) cm cn be ga om on F F2 L L2 X Y f hs hq hm rfl hLq hLq2 hbad hbe hga hX hY T zs w' hg' (e1.below hb) (e2.below hb) hS hz
end Go.Proofs.YtoipnjfajandmaaDoor

