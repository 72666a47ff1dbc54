/- The reference: Ordered. -/
import Derived.Test.YtimjgebiffemnaaDoorCS2
namespace Go.Proofs.YtimjgebiffemnaaDoor
open Go.RowKit

theorem ordB_false {n : Nat} {T : Nat → Int × Int × Int × Nat} {k : Nat} (hk : k < n) (h : okN (T k) k = false) : ordB n T = false :=
  decide_eq_false (fun a => by rw [a k hk] at h; cases h)
set_option maxHeartbeats 8000000 in
set_option maxRecDepth 100000 in
theorem rordered_any (n cn : Nat) (oa : Option Addr) (T : Nat → Int × Int × Int × Nat) (hn : n ≤ 1000000) (w : World) (hv : Rs w (.slice oa n cn) 7 n (fun i => nC (T i))) :
    Calls Tryd.prog 29 #[.slice oa n cn] w fun e w' => e = .returned (.bool (ordB n T)) ∧ Below w.heap.size w w' := by
  have HR : Hid (Rs w (.slice oa n cn) 7 n (fun i => nC (T i))) := hv
  clear hv
  go_enter Tryd.func29, Tryd.ntmps29
  go_wp2
  go_loopw [3] (fun iv wr => ∃ k : Nat, iv = .int .i64 (k : Int) ∧ k ≤ n ∧ Below w.heap.size w wr ∧ Hid (∀ i, i < k → okN (T i) i = true)) (fun iv _ => n - (intOf iv).toNat)
  case atStart => exact ⟨0, rfl, Nat.zero_le _, Below.refl _ _, fun i hi => by omega⟩
  case round =>
    obtain ⟨k, rfl, hk, hbr, HALL⟩ := hrel
    by_cases hlt : k < n
    · have hki : (k : Int) < (n : Int) := by omega
      have hk0 : (0 : Int) ≤ (k : Int) := by omega
      rcases HR.out with ⟨_, h0⟩ | ⟨ab, ao, c', hv, _, _, lab, hcell⟩
      · omega
      cases hv
      obtain ⟨O, A, B, V, hE⟩ : ∃ O A B V, T k = (O, A, B, V) := ⟨_, _, _, _, rfl⟩
      have ca : ∀ j, j < 7 → wr.cell? ⟨ab, ao + k * 7 + j, none⟩ = some (nC (T k) j) := fun j hj => by rw [hbr.cell (p := ⟨ab, ao + k * 7 + j, none⟩) lab]; exact hcell k hlt j hj
      rw [hE] at ca
      have HE : Hid (T k = (O, A, B, V)) := hE
      obtain ⟨t0, t1, t2, t3, t4, t5, t6⟩ := nC_cells O A B V
      have a0 := ca 0 (by decide); have a1 := ca 1 (by decide); have a2 := ca 2 (by decide); have a3 := ca 3 (by decide); have a4 := ca 4 (by decide); have a5 := ca 5 (by decide); have a6 := ca 6 (by decide)
      rw [t0] at a0; rw [t1] at a1; rw [t2] at a2; rw [t3] at a3; rw [t4] at a4; rw [t5] at a5; rw [t6] at a6
      rw [Nat.add_zero] at a0
      have HBR : Hid (Below w.heap.size w wr) := hbr
      clear ca t0 t1 t2 t3 t4 t5 t6 hE lab hcell hbr
      by_cases h1 : O < 1
      · have HO : Hid (ordB n T = false) := ordB_false hlt (by rw [HE.out]; unfold okN; rw [show okO O = false from decide_eq_false (by omega)]; rfl)
        go_wp2
        go_ret
        exact ⟨by rw [HO.out]; rfl, HBR.out⟩
      by_cases h8 : 8 < O
      · have HO : Hid (ordB n T = false) := ordB_false hlt (by rw [HE.out]; unfold okN; rw [show okO O = false from decide_eq_false (by omega)]; rfl)
        have h1' : 1 ≤ O := by omega
        go_wp2
        go_ret
        exact ⟨by rw [HO.out]; rfl, HBR.out⟩
      have h1' : 1 ≤ O := by omega
      have h8' : O ≤ 8 := by omega
      have HU : Hid (Calls _ _ _ _ _) := ruses_any O A B V wr
      go_wp2_with fail
      refine Calls.mono HU.out ?_
      rintro e w1 ⟨⟨uv, rfl, hz⟩, hb1⟩
      obtain ⟨ou, cu, hsh⟩ := Rs.shape hz
      subst hsh
      have HB1 : Hid (Below w.heap.size w w1) := bStep HBR.out hb1
      have HZ : Hid (Zs w1 (.slice ou (uN O) cu) (uN O) (uF A B)) := hz
      obtain ⟨U, eU⟩ : ∃ U, U = uN O := ⟨_, rfl⟩
      rw [← eU] at HZ ⊢
      have HUE : Hid (U = uN O) := eU
      have hU : U ≤ 2 := by rw [eU]; unfold uN; split; decide; split <;> decide
      clear hz hb1 HU eU a0 a1 a2 a3 a4 a5 a6
      go_wp2
      go_loop [5] (fun iv => ∃ j : Nat, iv = .int .i64 (j : Int) ∧ j ≤ U ∧ Hid (∀ q, q < j → 0 ≤ uF A B q ∧ uF A B q < (k : Int))) (fun iv => U - (intOf iv).toNat)
      case atStart => exact ⟨0, rfl, Nat.zero_le _, fun q hq => by omega⟩
      case round =>
        obtain ⟨j, rfl, hj, HJ⟩ := hrel
        by_cases hjl : j < U
        · have hji : (j : Int) < (U : Int) := by omega
          have hj0 : (0 : Int) ≤ (j : Int) := by omega
          rcases HZ.out with ⟨_, h0⟩ | ⟨ub, uo, c', hv, _, _, _, hcell⟩
          · omega
          cases hv
          have z0 := hcell j hjl 0 (by decide)
          dsimp only at z0
          rw [Nat.add_zero, Nat.mul_one] at z0
          obtain ⟨y, ey⟩ : ∃ y, y = uF A B j := ⟨_, rfl⟩
          rw [← ey] at z0
          have HY : Hid (y = uF A B j) := ey
          clear hcell ey
          have HBAD : Hid (¬ (0 ≤ y ∧ y < (k : Int)) → ordB n T = false) := fun hb => ordB_false hlt (by
            rw [HE.out]
            refine Bool.eq_false_iff.mpr (fun ho => ?_)
            unfold okN at ho
            rw [Bool.and_eq_true] at ho
            have h3 := of_decide_eq_true ho.2 j (by rw [← HUE.out]; exact hjl)
            rw [HY.out] at hb
            exact hb h3)
          by_cases hy0 : y < 0
          · have HO : Hid (ordB n T = false) := HBAD.out (by omega)
            go_wp2
            go_ret
            exact ⟨by rw [HO.out]; rfl, HB1.out⟩
          by_cases hyk : (k : Int) ≤ y
          · have HO : Hid (ordB n T = false) := HBAD.out (by omega)
            go_wp2
            go_ret
            exact ⟨by rw [HO.out]; rfl, HB1.out⟩
          have hyk' : y < (k : Int) := by omega
          have hy0' : 0 ≤ y := by omega
          have HJ1 : Hid (∀ q, q < j + 1 → 0 ≤ uF A B q ∧ uF A B q < (k : Int)) := fun q hq => by
            rcases Nat.lt_or_ge q j with h | h
            · exact HJ.out q h
            · rw [show q = j by omega, ← HY.out]; exact ⟨hy0', hyk'⟩
          go_wp2
          go_round
          case measure => simp [intOf]; omega
          case rel => exact ⟨j + 1, by go_num, hjl, HJ1⟩
        · have hji : ¬ (j : Int) < (U : Int) := by omega
          have HA : Hid (∀ i, i < k + 1 → okN (T i) i = true) := fun i hi => by
            rcases Nat.lt_or_ge i k with h | h
            · exact HALL.out i h
            · rw [show i = k by omega, HE.out]
              unfold okN
              rw [Bool.and_eq_true]
              exact ⟨decide_eq_true ⟨h1', h8'⟩, decide_eq_true (fun q hq => HJ.out q (by rw [← HUE.out] at hq; omega))⟩
          go_wp2
          go_roundw
          case measure => simp [intOf]; omega
          case rel => exact ⟨k + 1, by go_num, hlt, HB1.out, HA⟩
    · have hki : ¬ (k : Int) < (n : Int) := by omega
      have ek : k = n := by omega
      have HO : Hid (ordB n T = true) := decide_eq_true (fun i hi => HALL.out i (by omega))
      have HBR : Hid (Below w.heap.size w wr) := hbr
      clear hbr ek
      go_wp2
      go_ret
      exact ⟨by rw [HO.out]; rfl, HBR.out⟩

end Go.Proofs.YtimjgebiffemnaaDoor
