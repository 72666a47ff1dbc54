/- lookup.Permute. -/
import Derived.Test.YtobeeoelfmfpdaaDoorXLU8
namespace Go.Proofs.YtobeeoelfmfpdaaDoor
open Go.RowKit
/-- What Permute answers where the lists are as long as each other: a the inputs in order, r what is left of the tables. -/
def PrmE (a : List Nat) (r : Option (List Nat)) (n base : Nat) (e : Ending) (w' : World) : Prop :=
  (r = none ∧ e = .returned (.tuple #[.slice none 0 0, .slice none 0 0, .int .i64 200])) ∨ ∃ (t : List Nat) (A H : Nat), r = some t ∧ e = .returned (.tuple #[.slice (some ⟨A, 0, none⟩) n n, .slice (some ⟨H, 0, none⟩) n n, .int .i64 0]) ∧ base ≤ A ∧ base ≤ H ∧ A ≠ H ∧ BlkE w' A n (fun i => a.getD i 0) ∧ BlkE w' H n (mtF a t)
theorem fl_rsg (n : Nat) (f : Nat → Nat) : fl n (fun i => (rsg (fl n f)).getD i 0) = rsg (fl n f) := by
  have h := fl_self (rsg (fl n f))
  rwa [rsg_len, fl_len] at h
theorem rsg_M {n : Nat} {f : Nat → Nat} (hf : ∀ i, i < n → f i < 115792089237316195423570985008687907853269984665640564039457584007913129639936) : ∀ v, v ∈ rsg (fl n f) → v < 115792089237316195423570985008687907853269984665640564039457584007913129639936 := fun v hv => by
  obtain ⟨i, hi, e⟩ := fl_mem.1 ((rsg_perm _).mem_iff.1 hv)
  rw [← e]; exact hf i hi
theorem rsg_getM {n : Nat} {f : Nat → Nat} (hf : ∀ i, i < n → f i < 115792089237316195423570985008687907853269984665640564039457584007913129639936) (i : Nat) (hi : i < n) : (rsg (fl n f)).getD i 0 < 115792089237316195423570985008687907853269984665640564039457584007913129639936 := rsg_M hf _ (getD_mem (by rw [rsg_len, fl_len]; exact hi))
set_option maxHeartbeats 2000000 in
/-- lookup.Permute of lists that are as long as each other. -/
theorem prm_in (s n cn cm : Nat) (oa ob : Option Addr) (f g : Nat → Nat) (hs : s < 4) (hn : n ≤ 64) (hf : ∀ i, i < n → f i < 115792089237316195423570985008687907853269984665640564039457584007913129639936) (hgm : ∀ i, i < n → g i < 115792089237316195423570985008687907853269984665640564039457584007913129639936) (w : World) (hg : Glob w) (hv : Es w (.slice oa n cn) n f) (hu : Es w (.slice ob n cm) n g) :
    Calls Tryd.prog 11 #[.int .i64 (s : Int), .slice oa n cn, .slice ob n cm] w fun e w' => PrmE (rsg (fl n fun i => addP s (f i) 0)) (wo (rsg (fl n fun i => addP s (f i) 0)) (rsg (fl n fun i => addP s (g i) 0)) n) n w.heap.size e w' ∧ Below w.heap.size w w' := by
  have HM : Hid (∀ w, Glob w → _) := fun w hg => fModulus_any s hs w hg
  have HR : Hid (∀ w, Glob w → Es w (.slice oa n cn) n f → _) := fun w hg hv => rising_any s n cn oa f hs (by omega) hf w hg hv
  have HS : Hid (∀ w, Glob w → Es w (.slice ob n cm) n g → _) := fun w hg hv => rising_any s n cm ob g hs (by omega) hgm w hg hv
  have ha0 : ∀ i, addP s (f i) 0 < 115792089237316195423570985008687907853269984665640564039457584007913129639936 := fun i => addP_M s (f i) 0
  have hb0 : ∀ i, addP s (g i) 0 < 115792089237316195423570985008687907853269984665640564039457584007913129639936 := fun i => addP_M s (g i) 0
  have hla : (rsg (fl n fun i => addP s (f i) 0)).length = n := by rw [rsg_len, fl_len]
  have hlb : (rsg (fl n fun i => addP s (g i) 0)).length = n := by rw [rsg_len, fl_len]
  have hma : ∀ i, i < n → (rsg (fl n fun i => addP s (f i) 0)).getD i 0 < 115792089237316195423570985008687907853269984665640564039457584007913129639936 := rsg_getM (fun i _ => ha0 i)
  have hmb : ∀ v, v ∈ rsg (fl n fun i => addP s (g i) 0) → v < 115792089237316195423570985008687907853269984665640564039457584007913129639936 := rsg_M (fun i _ => hb0 i)
  have hfa : fl n (fun i => (rsg (fl n fun i => addP s (f i) 0)).getD i 0) = rsg (fl n fun i => addP s (f i) 0) := fl_rsg _ _
  obtain ⟨a, ea⟩ : ∃ a, a = rsg (fl n fun i => addP s (f i) 0) := ⟨_, rfl⟩
  obtain ⟨b, eb⟩ : ∃ b, b = rsg (fl n fun i => addP s (g i) 0) := ⟨_, rfl⟩
  rw [← ea] at HR hla hma hfa ⊢
  rw [← eb] at HS hlb hmb ⊢
  have HW : Hid (∀ A G w, A ≠ G → BlkE w A n (fun i => a.getD i 0) → RowL w G n b → Calls Tryd.prog 28 #[.slice (some ⟨G, 0, none⟩) n n, .slice (some ⟨A, 0, none⟩) n n] w fun e w' => WoE (wo a b n) G n e w' ∧ Kept G w w') := fun A G w hne h1 h2 => by
    have h := without_any A G n n (fun i => a.getD i 0) b (by omega) (by omega) hne hma hmb w h1 h2
    rw [hfa, hlb] at h
    exact h
  have HMT : Hid (∀ A G (t : List Nat) w, wo a b n = some t → BlkE w A n (fun i => a.getD i 0) → RowL w G n t → Calls Tryd.prog 29 #[.slice (some ⟨A, 0, none⟩) n n, .slice (some ⟨G, 0, none⟩) t.length n] w fun e w' => (∃ H, e = .returned (.slice (some ⟨H, 0, none⟩) n n) ∧ w.heap.size ≤ H ∧ BlkE w' H n (mtF a t)) ∧ Below w.heap.size w w') := fun A G t w ht h1 h2 => by
    have hl := wo_len n ht
    have h := match_any A G n n (fun i => a.getD i 0) t (by omega) hma (fun v hv => hmb v (wo_mem n ht v hv)) (by rw [hfa]; omega) w h1 h2
    rw [hfa] at h
    exact h
  have HB0 : Hid (b.length = n) := hlb
  have HE1 : Hid (∀ w', wo a b n = none → PrmE a (wo a b n) n w.heap.size (.returned (.tuple #[.slice none 0 0, .slice none 0 0, .int .i64 200])) w') := fun w' h => Or.inl ⟨h, rfl⟩
  have HE2 : Hid (∀ (t : List Nat) (A H : Nat) w', wo a b n = some t → w.heap.size ≤ A → w.heap.size ≤ H → A ≠ H → BlkE w' A n (fun i => a.getD i 0) → BlkE w' H n (mtF a t) → PrmE a (wo a b n) n w.heap.size (.returned (.tuple #[.slice (some ⟨A, 0, none⟩) n n, .slice (some ⟨H, 0, none⟩) n n, .int .i64 0])) w') := fun t A H w' h1 h2 h3 h4 h5 h6 => Or.inr ⟨t, A, H, h1, rfl, h2, h3, h4, h5, h6⟩
  have HG : Hid (Glob w) := hg
  have HV : Hid (Es w (.slice oa n cn) n f) := hv
  have HU : Hid (Es w (.slice ob n cm) n g) := hu
  have hn64 : ¬ (64 : Int) < (n : Int) := by omega
  have hn64' : ¬ 64 < n := by omega
  obtain ⟨M, eM⟩ : ∃ z, z = modN s := ⟨_, rfl⟩
  rw [← eM] at HM
  clear eM hs hf hgm hg hv hu ha0 hb0 hla hlb hma hmb hfa ea eb
  go_enter Tryd.func11, Tryd.ntmps11
  go_wp2_with fail
  refine (HM.out w HG.out).mono ?_
  rintro e w1 ⟨rfl, hb1⟩
  obtain ⟨w2, hw2⟩ : ∃ z : World, z = w1.alloc (.cells #[.int .u64 ((limb 0 (M) : Nat) : Int), .int .u64 ((limb 1 (M) : Nat) : Int), .int .u64 ((limb 2 (M) : Nat) : Int), .int .u64 ((limb 3 (M) : Nat) : Int)] 24) := ⟨_, rfl⟩
  have hb2 : Below w.heap.size w w2 := by rw [hw2]; exact bAlloc hb1 _
  clear HM hb1
  go_wp2_with (rw [← hw2]; fail)
  try rw [← hw2]
  clear hw2
  refine (HR.out w2 (HG.out.below hb2) (HV.out.below hb2)).mono ?_
  rintro e w3 ⟨⟨A, rfl, lA, bA⟩, hb3⟩
  have hbw3 := bStep hb2 hb3
  have lwA : w.heap.size ≤ A := Nat.le_trans hb2.size lA
  have lA3 := bA.lt
  clear HR hb2 hb3 lA
  go_wp2_with fail
  refine (HS.out w3 (HG.out.below hbw3) (HU.out.below hbw3)).mono ?_
  rintro e w4 ⟨⟨G, rfl, lG, bG⟩, hb4⟩
  have hbw4 := bStep hbw3 hb4
  have bA4 := bA.belowAll hb4
  have hAG : A ≠ G := by omega
  have lwG : w.heap.size ≤ G := Nat.le_trans hbw3.size lG
  have rG : RowL w4 G n b := ⟨by rw [HB0.out]; exact Nat.le_refl _, _, bG, fun i _ => rfl⟩
  clear HS bA bG hb4 hbw3
  go_wp2_with fail
  refine (HW.out A G w4 hAG bA4 rG).mono ?_
  rintro e w5 ⟨he, hk5⟩
  have bA5 := bA4.kept hAG hk5
  have hbw5 := bKept hbw4 lwG hk5
  clear HW bA4 rG hk5 hbw4
  rcases he with ⟨hw, rfl⟩ | ⟨t, hw, rfl, rG5⟩
  · have HN : Hid (wo a b n = none) := hw
    clear hw
    go_wp2
    refine bodyPost_ret (v := .tuple #[.slice none 0 0, .slice none 0 0, .int .i64 200]) (by simp [results, Tryd.results11, go_sem]) rfl ⟨?_, hbw5⟩
    exact HE1.out _ HN.out
  · have HN : Hid (wo a b n = some t) := hw
    clear hw
    have HMX : Hid (∀ w, BlkE w A n (fun i => a.getD i 0) → RowL w G n t → _) := fun w h1 h2 => HMT.out A G t w HN.out h1 h2
    obtain ⟨m, em⟩ : ∃ z, z = t.length := ⟨_, rfl⟩
    rw [← em] at HMX
    rw [← em]
    clear em HMT HE1
    go_wp2_with fail
    refine (HMX.out w5 bA5 rG5).mono ?_
    rintro e w6 ⟨⟨H, rfl, lH, bH⟩, hb6⟩
    have bA6 := bA5.belowAll hb6
    have hbw6 := bStep hbw5 hb6
    have hAH : A ≠ H := by have := bA5.lt; omega
    have lwH : w.heap.size ≤ H := Nat.le_trans hbw5.size lH
    clear bA5 rG5 hb6 hbw5 HMX
    go_wp2
    refine bodyPost_ret (v := .tuple #[.slice (some ⟨A, 0, none⟩) n n, .slice (some ⟨H, 0, none⟩) n n, .int .i64 0]) (by simp [results, Tryd.results11, go_sem]) rfl ⟨?_, hbw6⟩
    exact HE2.out t A H _ HN.out lwA lwH hAH bA6 bH
end Go.Proofs.YtobeeoelfmfpdaaDoor
