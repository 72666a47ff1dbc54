/- LookupOrders of anything. -/
import Derived.Test.YtobeeoelfmfpdaaDoorTLUG
namespace Go.Proofs.YtobeeoelfmfpdaaDoor
open Go.RowKit
set_option maxHeartbeats 2000000 in
theorem osk1 (si : Int) (n m ci ct : Nat) (oi ot : Option Addr) (h1 : (64 : Int) < (n : Int)) (w : World) (hg : Glob w) :
    Calls Tryd.prog 6 #[.int .i64 si, .slice oi n ci, .slice ot m ct] w fun e w' => e = .returned (.bool true) ∧ Below w.heap.size w w' := by
  have HG : Hid (Glob w) := hg
  have HAL : Hid (∀ w, Glob w → _) := fun w hg => alive17_any w hg
  clear hg
  go_enter Tryd.func6, Tryd.ntmps6
  go_wp2_with fail
  refine (HAL.out w HG.out).mono ?_
  rintro e w1 ⟨rfl, hb1⟩
  clear HAL HG
  go_wp2
  go_ret
  exact ⟨rfl, hb1⟩
set_option maxHeartbeats 2000000 in
theorem osk2 (si : Int) (n m ci ct : Nat) (oi ot : Option Addr) (h1 : ¬ (64 : Int) < (n : Int)) (h2 : (64 : Int) < (m : Int)) (w : World) (hg : Glob w) :
    Calls Tryd.prog 6 #[.int .i64 si, .slice oi n ci, .slice ot m ct] w fun e w' => e = .returned (.bool true) ∧ Below w.heap.size w w' := by
  have HG : Hid (Glob w) := hg
  have HAL : Hid (∀ w, Glob w → _) := fun w hg => alive17_any w hg
  clear hg
  go_enter Tryd.func6, Tryd.ntmps6
  go_wp2_with fail
  refine (HAL.out w HG.out).mono ?_
  rintro e w1 ⟨rfl, hb1⟩
  clear HAL HG
  go_wp2
  go_ret
  exact ⟨rfl, hb1⟩
theorem rsg_lt {s n : Nat} {f : Nat → Nat} : ∀ v, v ∈ (rsg (fl n fun i => addP s (f i) 0)) → v < modN s := fun v hv => by
  obtain ⟨i, _, e⟩ := fl_mem.1 ((rsg_perm _).mem_iff.1 hv)
  rw [← e]; exact addP_lt _ _ _
theorem addP_id {s x : Nat} (h : x < modN s) : addP s x 0 = x := by unfold addP; rw [Nat.add_zero, Nat.mod_eq_of_lt h]
theorem cnt_in (s n v : Nat) (f : Nat → Nat) : cnt s f v n = cnt s (fun i => (rsg (fl n fun i => addP s (f i) 0)).getD i 0) v n := by
  refine cnt_perm ?_
  have hl : (rsg (fl n fun i => addP s (f i) 0)).length = n := by rw [rsg_len, fl_len]
  have e : fl n (fun i => addP s ((rsg (fl n fun i => addP s (f i) 0)).getD i 0) 0) = (rsg (fl n fun i => addP s (f i) 0)) := by
    rw [fl_congr (g := fun i => (rsg (fl n fun i => addP s (f i) 0)).getD i 0) (fun i hi => addP_id (rsg_lt _ (getD_mem (by rw [hl]; exact hi))))]
    exact fl_rsg n _
  rw [e]
  exact (rsg_perm _).symm
theorem mt_lt {a t0 t : List Nat} {M : Nat} (hl : a.length = t0.length) (h : wo a t0 a.length = some t) (ha : ∀ v, v ∈ a → v < M) (ht : ∀ v, v ∈ t0 → v < M) : ∀ i, i < a.length → mtF a t i < M := by
  intro i hi
  cases hf : isF a i
  · rw [mtF_other hf]
    have h1 := wo_len _ h
    have h2 := nf_mono a (i + 1) a.length (by omega)
    rw [nf_other hf] at h2
    exact ht _ (wo_mem _ h _ (getD_mem (by omega)))
  · rw [mtF_first hf]
    exact ha _ (getD_mem hi)
theorem ords_all (si : Int) (u v : Value) (n m : Nat) (f g : Nat → Nat) (hf : ∀ i, i < n → f i < 115792089237316195423570985008687907853269984665640564039457584007913129639936) (hgm : ∀ i, i < m → g i < 115792089237316195423570985008687907853269984665640564039457584007913129639936) (w : World) (hg : Glob w) (hu : Es w u n f) (hv : Es w v m g) :
    Calls Tryd.prog 6 #[.int .i64 si, u, v] w fun e w' => e = .returned (.bool true) ∧ Below w.heap.size w w' := by
  obtain ⟨oi, ci, rfl⟩ := hu.shape
  obtain ⟨ot, ct, rfl⟩ := hv.shape
  by_cases h1 : (64 : Int) < (n : Int)
  · exact osk1 si n m ci ct oi ot h1 w hg
  by_cases h2 : (64 : Int) < (m : Int)
  · exact osk2 si n m ci ct oi ot h1 h2 w hg
  have hn : n ≤ 64 := by omega
  have hm : m ≤ 64 := by omega
  by_cases hs : si < 0 ∨ 4 ≤ si
  · exact ords_e si 20 n m oi ot ci ct f g hn hm (by decide) (by decide) (fun w oa ob ca cb _ _ _ => prm_out si hs _ _ w) w hg hu hv
  obtain ⟨s, rfl⟩ := Int.eq_ofNat_of_zero_le (show 0 ≤ si by omega)
  have hs4 : s < 4 := by omega
  by_cases hnm : n = m
  · subst hnm
    have hl : (rsg (fl n fun i => addP s (f i) 0)).length = n := by rw [rsg_len, fl_len]
    have hlt : (rsg (fl n fun i => addP s (g i) 0)).length = n := by rw [rsg_len, fl_len]
    have PM := fun w (oa ob : Option Addr) (ca cb : Nat) (hg : Glob w) (h1 : Es w (.slice oa n ca) n f) (h2 : Es w (.slice ob n cb) n g) => prm_in s n ca cb oa ob f g hs4 hn hf hgm w hg h1 h2
    cases hw : wo (rsg (fl n fun i => addP s (f i) 0)) (rsg (fl n fun i => addP s (g i) 0)) n with
    | none =>
      rw [hw] at PM
      refine ords_u s n n oi ot ci ct f g hn hn hs4 hf hgm ?_ (fun w oa ob ca cb hg h1 h2 => (PM w oa ob ca cb hg h1 h2).mono ?_) w hg hu hv
      · obtain ⟨i, hi, hno⟩ := wo_miss (rsg_asc _) n (by omega) hw
        have hm1 : (rsg (fl n fun i => addP s (f i) 0)).getD i 0 ∈ (rsg (fl n fun i => addP s (f i) 0)) := getD_mem (by omega)
        obtain ⟨k, hk, e⟩ := fl_mem.1 ((rsg_perm _).mem_iff.1 hm1)
        refine ⟨k, hk, ?_⟩
        rw [cnt_list, List.count_eq_zero]
        intro hc
        refine hno ((rsg_perm _).mem_iff.2 ?_)
        rw [← e]
        unfold addP at *
        rw [Nat.add_zero]
        exact hc
      · rintro e w' ⟨⟨_, rfl⟩ | ⟨t, A, H, h0, _⟩, hb⟩
        · exact ⟨rfl, hb⟩
        · cases h0
    | some t =>
      rw [hw] at PM
      have hw' : wo (rsg (fl n fun i => addP s (f i) 0)) (rsg (fl n fun i => addP s (g i) 0)) (rsg (fl n fun i => addP s (f i) 0)).length = some t := by rw [hl]; exact hw
      have hlB := mt_lt (M := modN s) (by rw [hl, hlt]) hw' rsg_lt rsg_lt
      rw [hl] at hlB
      refine ords_o s n oi ot ci ct f g (fun i => (rsg (fl n fun i => addP s (f i) 0)).getD i 0) (mtF (rsg (fl n fun i => addP s (f i) 0)) t) hn hs4 hf hgm (fun i hi => lt_M s _ (rsg_lt _ (getD_mem (by omega)))) (fun i hi => lt_M s _ (hlB i hi)) (fun v => cnt_in s n v f) (fun v => ?_) (fun i _ h => mt_beside h) (fun w oa ob ca cb hg h1 h2 => (PM w oa ob ca cb hg h1 h2).mono ?_) w hg hu hv
      · refine cnt_perm ?_
        have hp := mt_all (by rw [hl, hlt]) hw'
        rw [hl] at hp
        rw [fl_congr (n := n) (f := fun i => addP s (mtF (rsg (fl n fun i => addP s (f i) 0)) t i) 0) (g := mtF (rsg (fl n fun i => addP s (f i) 0)) t) (fun i hi => addP_id (hlB i hi))]
        exact ((rsg_perm _).symm).trans hp.symm
      · rintro e w' ⟨⟨h0, _⟩ | ⟨t', A, H, h0, rfl, _, _, _, bA, bH⟩, hb⟩
        · cases h0
        · cases h0
          exact ⟨⟨A, H, rfl, bA, bH⟩, hb⟩
  · exact ords_e (s : Int) 50 n m oi ot ci ct f g hn hm (by decide) (by decide) (fun w oa ob ca cb hg _ _ => prm_len s n m ca cb oa ob hs4 (Or.inl hnm) w hg) w hg hu hv
end Go.Proofs.YtobeeoelfmfpdaaDoor
