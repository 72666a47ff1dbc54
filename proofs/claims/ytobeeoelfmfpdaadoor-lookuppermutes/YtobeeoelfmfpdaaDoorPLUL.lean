/- The reference's Permute. -/
import Derived.Test.YtobeeoelfmfpdaaDoorPLUK
namespace Go.Proofs.YtobeeoelfmfpdaaDoor
open Go.RowKit
theorem els_append (f g : Nat → Nat) (n m : Nat) : els f n ++ els g m = els (fun i => if i < n then f i else g (i - n)) (n + m) := by
  unfold els
  rw [Nat.add_mul, List.range_add, List.map_append, List.map_map]
  congr 1
  · refine List.map_congr_left fun t ht => ?_
    have h : t < n * 4 := by simpa using ht
    dsimp only
    rw [if_pos (by omega)]
  · refine List.map_congr_left fun t ht => ?_
    have h : t < m * 4 := by simpa using ht
    show _ = Value.int .u64 ((limb ((n * 4 + t) % 4) (if (n * 4 + t) / 4 < n then f ((n * 4 + t) / 4) else g ((n * 4 + t) / 4 - n)) : Nat) : Int)
    rw [if_neg (by omega), show (n * 4 + t) % 4 = t % 4 by omega, show (n * 4 + t) / 4 - n = t / 4 by omega]
theorem OwnL.join {w : World} {base m : Nat} {v : Value} {l r : List Nat} (hm : r.length = m) (h : w.ownsRow base 24 4 v (l.length + m) (els (fun i => l.getD i 0) l.length ++ els (fun i => r.getD i 0) r.length)) : OwnL w base v (l ++ r) := by
  subst hm
  unfold OwnL
  rw [els_append, ← List.length_append] at h
  rw [els_congr (g := fun i => (l ++ r).getD i 0) (fun i hi => ?_)] at h
  · exact h
  · rw [List.length_append] at hi
    rw [List.getD_eq_getElem?_getD (l := l ++ r)]
    by_cases c : i < l.length
    · rw [if_pos c, List.getElem?_append_left c, List.getD_eq_getElem?_getD]
    · rw [if_neg c, List.getElem?_append_right (by omega), List.getD_eq_getElem?_getD]
/-- The cells of a part of a list that lies somewhere. -/
theorem part_cells {w : World} {b o n q m : Nat} {f : Nat → Nat} {r : List Nat} (hc : ∀ i, i < n → ∀ j, j < 4 → w.cell? ⟨b, o + i * 4 + j, none⟩ = some (.int .u64 ((limb j (f i) : Nat) : Int))) (hm : r.length = m) (hq : q + m ≤ n) (hr : ∀ i, i < m → r.getD i 0 = f (q + i)) :
    ∀ j u, (els (fun i => r.getD i 0) r.length)[j]? = some u → w.cell? ((⟨b, o + q * 4, none⟩ : Addr).add j) = some u := by
  intro j u hu
  have hj : j < m * 4 := by
    have := (List.getElem?_eq_some_iff.1 hu).1
    rwa [els_len, hm] at this
  have e := els_get (fun i => r.getD i 0) r.length (j / 4) (j % 4) (by omega) (by omega)
  rw [show j / 4 * 4 + j % 4 = j by omega, hu] at e
  cases e
  rw [Addr.add_lit, show o + q * 4 + j = o + (q + j / 4) * 4 + j % 4 by omega]
  rw [hr (j / 4) (by omega)]
  exact hc _ (by omega) _ (by omega)
theorem Es.congr {w : World} {v : Value} {n : Nat} {f g : Nat → Nat} (h : Es w v n f) (hg : ∀ i, i < n → g i = f i) : Es w v n g := by
  rcases h with h | ⟨b, o, c, hv, h1, h2, h3, h4⟩
  · exact Or.inl h
  · exact Or.inr ⟨b, o, c, hv, h1, h2, h3, fun i hi j hj => by rw [hg i hi]; exact h4 i hi j hj⟩
/-- What the reference's Permute answers. -/
def RPrmE (a : List Nat) (r : Option (List Nat)) (n : Nat) (e : Ending) (w' : World) : Prop :=
  (r = none ∧ e = .returned (.tuple #[.slice none 0 0, .slice none 0 0, .int .i64 200])) ∨ ∃ (t : List Nat) (v u : Value), r = some t ∧ e = .returned (.tuple #[v, u, .int .i64 0]) ∧ Es w' v n (fun i => a.getD i 0) ∧ Es w' u n (mtF a t)
theorem isF_k {a : List Nat} {i : Nat} (h : i ≠ 0) : isF a i = !decide (a.getD i 0 = a.getD (i - 1) 0) := by
  unfold isF; rw [decide_eq_false h, Bool.false_or]
set_option maxHeartbeats 2000000 in
set_option maxRecDepth 20000 in
theorem rprm_out (si : Int) (hs : si < 0 ∨ 3 < si) (u v : Value) (w : World) :
    Calls Tryd.prog 12 #[.int .i64 si, u, v] w fun e w' => e = .returned (.tuple #[.slice none 0 0, .slice none 0 0, .int .i64 20]) ∧ w' = w := by
  by_cases h : si < 0
  · go_enter Tryd.func12, Tryd.ntmps12
    go_wp2
    refine bodyPost_ret (v := .tuple #[.slice none 0 0, .slice none 0 0, .int .i64 20]) (by simp [results, Tryd.results12, go_sem]) rfl ⟨rfl, rfl⟩
  · have h3 : 3 < si := by omega
    go_enter Tryd.func12, Tryd.ntmps12
    go_wp2
    refine bodyPost_ret (v := .tuple #[.slice none 0 0, .slice none 0 0, .int .i64 20]) (by simp [results, Tryd.results12, go_sem]) rfl ⟨rfl, rfl⟩
set_option maxHeartbeats 2000000 in
set_option maxRecDepth 20000 in
theorem rprm_len (s n m cn cm : Nat) (oa ob : Option Addr) (hs : s < 4) (hn : n ≠ m ∨ 64 < n) (w : World) :
    Calls Tryd.prog 12 #[.int .i64 (s : Int), .slice oa n cn, .slice ob m cm] w fun e w' => e = .returned (.tuple #[.slice none 0 0, .slice none 0 0, .int .i64 50]) ∧ w' = w := by
  have i1 : ¬ (s : Int) < 0 := by omega
  have i2 : ¬ (3 : Int) < (s : Int) := by omega
  have i3 : ¬ 3 < s := by omega
  by_cases h : n = m
  · subst h
    have h64 : 64 < n := by omega
    have h64i : (64 : Int) < (n : Int) := by omega
    clear hn
    go_enter Tryd.func12, Tryd.ntmps12
    go_wp2
    refine bodyPost_ret (v := .tuple #[.slice none 0 0, .slice none 0 0, .int .i64 50]) (by simp [results, Tryd.results12, go_sem]) rfl ⟨rfl, rfl⟩
  · have hi : ¬ (n : Int) = (m : Int) := by omega
    clear hn
    go_enter Tryd.func12, Tryd.ntmps12
    go_wp2
    refine bodyPost_ret (v := .tuple #[.slice none 0 0, .slice none 0 0, .int .i64 50]) (by simp [results, Tryd.results12, go_sem]) rfl ⟨rfl, rfl⟩
set_option maxHeartbeats 1000000 in
set_option maxRecDepth 20000 in
/-- The reference's Permute of lists that are as long as each other. -/
theorem rprm_in (s n cn cm : Nat) (oa ob : Option Addr) (f g : Nat → Nat) (hs : s < 4) (hn : n ≤ 64) (hf : ∀ i, i < n → f i < 115792089237316195423570985008687907853269984665640564039457584007913129639936) (hgm : ∀ i, i < n → g i < 115792089237316195423570985008687907853269984665640564039457584007913129639936) (w : World) (hv : Es w (.slice oa n cn) n f) (hu : Es w (.slice ob n cm) n g) :
    Calls Tryd.prog 12 #[.int .i64 (s : Int), .slice oa n cn, .slice ob n cm] w fun e w' => RPrmE (rsg (fl n fun i => addP s (f i) 0)) (wo (rsg (fl n fun i => addP s (f i) 0)) (rsg (fl n fun i => addP s (g i) 0)) n) n e w' ∧ Below w.heap.size w w' := by
  obtain ⟨i0, hi, hz0, hz1, hz2⟩ := elemInfo
  have HI := (show Hid _ from hi); have HZ := (show Hid _ from And.intro hz0 (And.intro hz1 hz2)); clear hi hz0 hz1 hz2
  have HRA : Hid (∀ w, Es w (.slice oa n cn) n f → Calls Tryd.prog 30 #[.int .i64 (s : Int), .slice oa n cn] w fun e w' => (∃ o c, e = .returned (.slice o n c) ∧ Es w' (.slice o n c) n (fun i => (rsg (fl n fun i => addP s (f i) 0)).getD i 0)) ∧ Below w.heap.size w w') := fun w hv => (rrising_any s n cn oa f hs hn hf w hv).mono (by
    rintro e w' ⟨⟨v, rfl, hO⟩, hb⟩
    have hE := hO.es
    rw [rsg_len, fl_len] at hE
    obtain ⟨o, c, rfl⟩ := hE.shape
    exact ⟨⟨o, c, rfl, hE⟩, hb⟩)
  have HRT : Hid (∀ w, Es w (.slice ob n cm) n g → Calls Tryd.prog 30 #[.int .i64 (s : Int), .slice ob n cm] w fun e w' => (∃ o c, e = .returned (.slice o n c) ∧ Es w' (.slice o n c) n (fun i => (rsg (fl n fun i => addP s (g i) 0)).getD i 0)) ∧ Below w.heap.size w w') := fun w hv => (rrising_any s n cm ob g hs hn hgm w hv).mono (by
    rintro e w' ⟨⟨v, rfl, hO⟩, hb⟩
    have hE := hO.es
    rw [rsg_len, fl_len] at hE
    obtain ⟨o, c, rfl⟩ := hE.shape
    exact ⟨⟨o, c, rfl, hE⟩, hb⟩)
  have hla : (rsg (fl n fun i => addP s (f i) 0)).length = n := by rw [rsg_len, fl_len]
  have hlt : (rsg (fl n fun i => addP s (g i) 0)).length = n := by rw [rsg_len, fl_len]
  have hMA : ∀ i, i < n → (rsg (fl n fun i => addP s (f i) 0)).getD i 0 < 115792089237316195423570985008687907853269984665640564039457584007913129639936 := fun i hi => rsg_M (fun i _ => addP_M s (f i) 0) _ (getD_mem (by omega))
  have hMT : ∀ v, v ∈ (rsg (fl n fun i => addP s (g i) 0)) → v < 115792089237316195423570985008687907853269984665640564039457584007913129639936 := fun v hv => rsg_M (fun i _ => addP_M s (g i) 0) v hv
  obtain ⟨a, ea⟩ : ∃ z, z = (rsg (fl n fun i => addP s (f i) 0)) := ⟨_, rfl⟩
  obtain ⟨T, eT⟩ : ∃ z, z = (rsg (fl n fun i => addP s (g i) 0)) := ⟨_, rfl⟩
  rw [← ea] at HRA hla hMA ⊢
  rw [← eT] at HRT hlt hMT ⊢
  have HLA : Hid (a.length = n) := hla
  have HLT : Hid (T.length = n) := hlt
  have HMA : Hid (∀ i, i < n → a.getD i 0 < 115792089237316195423570985008687907853269984665640564039457584007913129639936) := hMA
  have HMT : Hid (∀ v, v ∈ T → v < 115792089237316195423570985008687907853269984665640564039457584007913129639936) := hMT
  have HEQ : Hid (∀ (X Y : Nat), X < 115792089237316195423570985008687907853269984665640564039457584007913129639936 → Y < 115792089237316195423570985008687907853269984665640564039457584007913129639936 → ∀ w : World, _) := fun X Y hX hY w => eqlIn X Y hX hY w
  have HV : Hid (Es w (.slice oa n cn) n f) := hv
  have HU : Hid (Es w (.slice ob n cm) n g) := hu
  have HE1 : Hid (∀ w', wo a T n = none → RPrmE a (wo a T n) n (.returned (.tuple #[.slice none 0 0, .slice none 0 0, .int .i64 200])) w') := fun w' h => Or.inl ⟨h, rfl⟩
  have HE2 : Hid (∀ w' (t : List Nat) (v u : Value), wo a T n = some t → Es w' v n (fun i => a.getD i 0) → Es w' u n (mtF a t) → RPrmE a (wo a T n) n (.returned (.tuple #[v, u, .int .i64 0])) w') := fun w' t v u h1 h2 h3 => Or.inr ⟨t, v, u, h1, rfl, h2, h3⟩
  have i1 : ¬ (s : Int) < 0 := by omega
  have i2 : ¬ (3 : Int) < (s : Int) := by omega
  have i3 : ¬ 3 < s := by omega
  have i4 : ¬ (64 : Int) < (n : Int) := by omega
  have i5 : ¬ 64 < n := by omega
  clear hv hu hf hgm hs ea eT hla hlt hMA hMT
  go_enter Tryd.func12, Tryd.ntmps12
  go_wp2_with fail
  refine (HRA.out w HV.out).mono ?_
  rintro e w1 ⟨⟨oA, ca, rfl, eA⟩, hb1⟩
  clear HRA HV
  go_wp2_with fail
  refine (HRT.out w1 (HU.out.below hb1)).mono ?_
  rintro e w2 ⟨⟨oT, ct, rfl, eT⟩, hb2⟩
  have hbw2 := bStep hb1 hb2
  have HA2 : Hid (Es w2 (.slice oA n ca) n (fun i => a.getD i 0)) := eA.below hb2
  have HT2 : Hid (Es w2 (.slice oT n ct) n (fun i => T.getD i 0)) := eT
  clear eA eT hb1 hb2 HRT HU
  go_wp2
  go_loopw [10, 11] (fun tv iv wr => ∃ (i m cl : Nat) (ol : Option Addr) (l : List Nat), iv = .int .i64 (i : Int) ∧ tv = .slice ol m cl ∧ i ≤ n ∧ Hid (wo a T i = some l ∧ l.length = m ∧ m ≤ n) ∧ Es wr (.slice ol m cl) m (fun i => l.getD i 0) ∧ Below w2.heap.size w2 wr) (fun _ iv _ => n - (intOf iv).toNat)
  case atStart => exact ⟨0, n, ct, oT, T, rfl, rfl, Nat.zero_le _, ⟨rfl, HLT.out, Nat.le_refl _⟩, HT2.out, Below.refl _ _⟩
  case round =>
    obtain ⟨i, m, cl, ol, l, rfl, rfl, hi, hl, eL, hb⟩ := hrel
    by_cases hlt : i < n
    · have hii : (i : Int) < (n : Int) := by omega
      rcases HA2.out.open with ⟨_, h0, _⟩ | ⟨ab, ao, rfl, _, _, lab2, hcA⟩
      · omega
      have lab : ab < wr.heap.size := Nat.lt_of_lt_of_le lab2 hb.size
      have hAr : ∀ i, i < n → ∀ j, j < 4 → wr.cell? ⟨ab, ao + i * 4 + j, none⟩ = some (.int .u64 ((limb j (a.getD i 0) : Nat) : Int)) := fun i hi j hj => (hb.cell (p := ⟨ab, ao + i * 4 + j, none⟩) lab2).trans (hcA i hi j hj)
      have x0 := hAr i hlt 0 (by decide); have x1 := hAr i hlt 1 (by decide); have x2 := hAr i hlt 2 (by decide); have x3 := hAr i hlt 3 (by decide)
      rw [Nat.add_zero] at x0
      by_cases hf : isF a i = true
      · have HFI : Hid (isF a i = true) := hf
        have hxM := HMA.out i hlt
        have HAT : Hid (∀ x, x = a.getD i 0 → a.getD i 0 = x) := fun x h => h.symm
        clear hf
        go_upto_region 10 with fail
        go_cut [58] (fun p wx => p = .bool false ∧ Below wr.heap.size wr wx)
        case first =>
          by_cases hi0 : i = 0
          · subst hi0
            refine wp_region_Z (fun w' => Below wr.heap.size wr w') 99 (by kernel_rfl) ?_
            obtain ⟨wD, hD⟩ : ∃ z : World, z = wr.drew := ⟨_, rfl⟩
            rw [← hD]
            have hp0 : Below wr.heap.size wr wD := by rw [hD]; exact (Below.refl _ _).drew
            clear hD
            refine zt 0 45 (.int .i64 0) rfl rfl (fun w hSw => by go_simp) hp0 ?_
            simp only [Act.put, List.setIfInBounds_toArray]
            (try dsimp only [List.set_cons_zero, List.set_cons_succ])
            refine zt 1 46 (.bool false) rfl rfl (fun w hSw => by go_simp) hp0 ?_
            simp only [Act.put, List.setIfInBounds_toArray]
            (try dsimp only [List.set_cons_zero, List.set_cons_succ])
            refine zt 2 47 (.bool false) rfl rfl (fun w hSw => by go_simp) hp0 ?_
            simp only [Act.put, List.setIfInBounds_toArray]
            (try dsimp only [List.set_cons_zero, List.set_cons_succ])
            refine zu 3 48 rfl rfl hp0 ?_
            simp only [Act.put, List.setIfInBounds_toArray]
            (try dsimp only [List.set_cons_zero, List.set_cons_succ])
            refine zu 4 49 rfl rfl hp0 ?_
            simp only [Act.put, List.setIfInBounds_toArray]
            (try dsimp only [List.set_cons_zero, List.set_cons_succ])
            refine zu 5 50 rfl rfl hp0 ?_
            simp only [Act.put, List.setIfInBounds_toArray]
            (try dsimp only [List.set_cons_zero, List.set_cons_succ])
            refine zu 6 51 rfl rfl hp0 ?_
            simp only [Act.put, List.setIfInBounds_toArray]
            (try dsimp only [List.set_cons_zero, List.set_cons_succ])
            refine zu 7 52 rfl rfl hp0 ?_
            simp only [Act.put, List.setIfInBounds_toArray]
            (try dsimp only [List.set_cons_zero, List.set_cons_succ])
            refine zu 8 53 rfl rfl hp0 ?_
            simp only [Act.put, List.setIfInBounds_toArray]
            (try dsimp only [List.set_cons_zero, List.set_cons_succ])
            refine zu 9 54 rfl rfl hp0 ?_
            simp only [Act.put, List.setIfInBounds_toArray]
            (try dsimp only [List.set_cons_zero, List.set_cons_succ])
            refine zu 10 55 rfl rfl hp0 ?_
            simp only [Act.put, List.setIfInBounds_toArray]
            (try dsimp only [List.set_cons_zero, List.set_cons_succ])
            refine zu 11 56 rfl rfl hp0 ?_
            simp only [Act.put, List.setIfInBounds_toArray]
            (try dsimp only [List.set_cons_zero, List.set_cons_succ])
            refine zu 12 57 rfl rfl hp0 ?_
            simp only [Act.put, List.setIfInBounds_toArray]
            (try dsimp only [List.set_cons_zero, List.set_cons_succ])
            refine zt 13 58 (.bool false) rfl rfl (fun w hSw => by go_simp) hp0 ?_
            simp only [Act.put, List.setIfInBounds_toArray]
            (try dsimp only [List.set_cons_zero, List.set_cons_succ])
            refine wpZ_done (by kernel_rfl) ?_ _
            go_wp2_with fail
            go_meet
            exact ⟨rfl, hp0⟩
          · obtain ⟨k, ek⟩ : ∃ k, k = i - 1 := ⟨_, rfl⟩
            have y0 := hAr k (by omega) 0 (by decide); have y1 := hAr k (by omega) 1 (by decide); have y2 := hAr k (by omega) 2 (by decide); have y3 := hAr k (by omega) 3 (by decide)
            rw [Nat.add_zero] at y0
            have hq := HEQ.out (a.getD i 0) (a.getD k 0) hxM (HMA.out k (by omega))
            have hF := HFI.out
            rw [isF_k hi0, ← ek] at hF
            have hF2 : decide (a.getD i 0 = a.getD k 0) = false := by simpa using hF
            rw [hF2] at hq
            have HQ : Hid (∀ w : World, _) := hq
            obtain ⟨x, ex⟩ : ∃ x, x = a.getD i 0 := ⟨_, rfl⟩
            obtain ⟨y, ey⟩ : ∃ y, y = a.getD k 0 := ⟨_, rfl⟩
            rw [← ex] at x0 x1 x2 x3 HQ
            rw [← ey] at y0 y1 y2 y3 HQ
            have hk1 : (i : Int) - 1 = (k : Int) := by omega
            have hkw : IntKind.i64.wrap (k : Int) = (k : Int) := wrap_i64_nat k (by omega)
            have hkn : (k : Int) < (n : Int) := by omega
            have hi1 : (0 : Int) < (i : Int) := by omega
            have hi2 : 0 < i := by omega
            clear hq hF hF2 ex ey ek hAr HAT hxM
            refine wp_region_Z (fun w' => Below wr.heap.size wr w') 99 (by kernel_rfl) ?_
            obtain ⟨wD, hD⟩ : ∃ z : World, z = wr.drew := ⟨_, rfl⟩
            rw [← hD]
            have hp0 : Below wr.heap.size wr wD := by rw [hD]; exact (Below.refl _ _).drew
            clear hD
            refine zt 0 45 (.int .i64 (i : Int)) rfl rfl (fun w hSw => by go_simp) hp0 ?_
            simp only [Act.put, List.setIfInBounds_toArray]
            (try dsimp only [List.set_cons_zero, List.set_cons_succ])
            refine zt 1 46 (.bool true) rfl rfl (fun w hSw => by go_simp) hp0 ?_
            simp only [Act.put, List.setIfInBounds_toArray]
            (try dsimp only [List.set_cons_zero, List.set_cons_succ])
            refine zt 2 47 (.bool true) rfl rfl (fun w hSw => by go_simp) hp0 ?_
            simp only [Act.put, List.setIfInBounds_toArray]
            (try dsimp only [List.set_cons_zero, List.set_cons_succ])
            refine zt 3 48 (.slice (some ⟨ab, ao, none⟩) n ca) rfl rfl (fun w hSw => by go_simp) hp0 ?_
            simp only [Act.put, List.setIfInBounds_toArray]
            (try dsimp only [List.set_cons_zero, List.set_cons_succ])
            refine zt 4 49 (.int .i64 (i : Int)) rfl rfl (fun w hSw => by go_simp) hp0 ?_
            simp only [Act.put, List.setIfInBounds_toArray]
            (try dsimp only [List.set_cons_zero, List.set_cons_succ])
            refine zt 5 50 (.pointer (some ⟨ab, ao + i * 4, none⟩)) rfl rfl (fun w hSw => by go_simp) hp0 ?_
            simp only [Act.put, List.setIfInBounds_toArray]
            (try dsimp only [List.set_cons_zero, List.set_cons_succ])
            refine zt 6 51 (.agg #[.int .u64 ((limb 0 (x) : Nat) : Int), .int .u64 ((limb 1 (x) : Nat) : Int), .int .u64 ((limb 2 (x) : Nat) : Int), .int .u64 ((limb 3 (x) : Nat) : Int)]) rfl rfl (fun w hSw => by (have x0x := ((hSw).cell (p := ⟨ab, ao + i * 4, none⟩) lab).trans x0; have x1x := ((hSw).cell (p := ⟨ab, ao + i * 4 + 1, none⟩) lab).trans x1; have x2x := ((hSw).cell (p := ⟨ab, ao + i * 4 + 2, none⟩) lab).trans x2; have x3x := ((hSw).cell (p := ⟨ab, ao + i * 4 + 3, none⟩) lab).trans x3); clear hSw; go_simp) hp0 ?_
            simp only [Act.put, List.setIfInBounds_toArray]
            (try dsimp only [List.set_cons_zero, List.set_cons_succ])
            refine zt 7 52 (.slice (some ⟨ab, ao, none⟩) n ca) rfl rfl (fun w hSw => by go_simp) hp0 ?_
            simp only [Act.put, List.setIfInBounds_toArray]
            (try dsimp only [List.set_cons_zero, List.set_cons_succ])
            refine zt 8 53 (.int .i64 (i : Int)) rfl rfl (fun w hSw => by go_simp) hp0 ?_
            simp only [Act.put, List.setIfInBounds_toArray]
            (try dsimp only [List.set_cons_zero, List.set_cons_succ])
            refine zt 9 54 (.int .i64 (k : Int)) rfl rfl (fun w hSw => by go_simp) hp0 ?_
            simp only [Act.put, List.setIfInBounds_toArray]
            (try dsimp only [List.set_cons_zero, List.set_cons_succ])
            refine zt 10 55 (.pointer (some ⟨ab, ao + k * 4, none⟩)) rfl rfl (fun w hSw => by go_simp) hp0 ?_
            simp only [Act.put, List.setIfInBounds_toArray]
            (try dsimp only [List.set_cons_zero, List.set_cons_succ])
            refine zt 11 56 (.agg #[.int .u64 ((limb 0 (y) : Nat) : Int), .int .u64 ((limb 1 (y) : Nat) : Int), .int .u64 ((limb 2 (y) : Nat) : Int), .int .u64 ((limb 3 (y) : Nat) : Int)]) rfl rfl (fun w hSw => by (have y0x := ((hSw).cell (p := ⟨ab, ao + k * 4, none⟩) lab).trans y0; have y1x := ((hSw).cell (p := ⟨ab, ao + k * 4 + 1, none⟩) lab).trans y1; have y2x := ((hSw).cell (p := ⟨ab, ao + k * 4 + 2, none⟩) lab).trans y2; have y3x := ((hSw).cell (p := ⟨ab, ao + k * 4 + 3, none⟩) lab).trans y3); clear hSw; go_simp) hp0 ?_
            simp only [Act.put, List.setIfInBounds_toArray]
            (try dsimp only [List.set_cons_zero, List.set_cons_succ])
            refine zt 12 57 (.bool false) rfl rfl (fun w hSw => by have hq := HQ.out w; clear hSw; go_simp) hp0 ?_
            simp only [Act.put, List.setIfInBounds_toArray]
            (try dsimp only [List.set_cons_zero, List.set_cons_succ])
            refine zt 13 58 (.bool false) rfl rfl (fun w hSw => by go_simp) hp0 ?_
            simp only [Act.put, List.setIfInBounds_toArray]
            (try dsimp only [List.set_cons_zero, List.set_cons_succ])
            refine wpZ_done (by kernel_rfl) ?_ _
            go_wp2_with fail
            go_meet
            exact ⟨rfl, hp0⟩
        obtain ⟨rfl, hbx⟩ := hcut
        obtain ⟨wq0, ewq⟩ : ∃ z, z = wc := ⟨_, rfl⟩
        rw [← ewq] at hbx ⊢
        have hbq0 := hb.trans (hbx.mono hb.size)
        have eL0 := eL.below hbx
        have xq : ∀ j, j < 4 → wq0.cell? ⟨ab, ao + i * 4 + j, none⟩ = some (.int .u64 ((limb j (a.getD i 0) : Nat) : Int)) := fun j hj => (hbx.cell (p := ⟨ab, ao + i * 4 + j, none⟩) lab).trans (hAr i hlt j hj)
        have laq : ab < wq0.heap.size := Nat.lt_of_lt_of_le lab hbx.size
        clear ewq hbx hb eL hAr x0 x1 x2 x3 lab
        obtain ⟨x, ex⟩ : ∃ x, x = a.getD i 0 := ⟨_, rfl⟩
        have HX : Hid (a.getD i 0 = x) := ex.symm
        have hxq := HMA.out i hlt
        rw [← ex] at xq hxq
        have HXM : Hid (x < 115792089237316195423570985008687907853269984665640564039457584007913129639936) := hxq
        have x0 := xq 0 (by decide); have x1 := xq 1 (by decide); have x2 := xq 2 (by decide); have x3 := xq 3 (by decide)
        rw [Nat.add_zero] at x0
        clear ex hxq HAT hxM
        go_wp2
        go_loopw [12] (fun kv wq => ∃ k : Nat, kv = .int .i64 (k : Int) ∧ k ≤ m ∧ Hid (∀ j, j < k → l.getD j 0 ≠ x) ∧ Below wq0.heap.size wq0 wq) (fun kv _ => m - (intOf kv).toNat)
        case atStart => exact ⟨0, rfl, Nat.zero_le _, fun j hj => by omega, Below.refl _ _⟩
        case round =>
          obtain ⟨k, rfl, hk, hno, hbq⟩ := hrel
          have lab : ab < wr.heap.size := Nat.lt_of_lt_of_le laq hbq.size
          have x0 := (hbq.cell (p := ⟨ab, ao + i * 4, none⟩) laq).trans x0; have x1 := (hbq.cell (p := ⟨ab, ao + i * 4 + 1, none⟩) laq).trans x1; have x2 := (hbq.cell (p := ⟨ab, ao + i * 4 + 2, none⟩) laq).trans x2; have x3 := (hbq.cell (p := ⟨ab, ao + i * 4 + 3, none⟩) laq).trans x3
          have hmn := hl.out.2.2
          by_cases hkm : k < m
          · have hki : (k : Int) < (m : Int) := by omega
            rcases eL0.open with ⟨_, h0, _⟩ | ⟨lb, lo, rfl, hmc, hcm, llb, hcl⟩
            · omega
            have lbl : lb < wr.heap.size := Nat.lt_of_lt_of_le llb hbq.size
            have y0 := (hbq.cell (p := ⟨lb, lo + k * 4 + 0, none⟩) llb).trans (hcl k hkm 0 (by decide)); have y1 := (hbq.cell (p := ⟨lb, lo + k * 4 + 1, none⟩) llb).trans (hcl k hkm 1 (by decide)); have y2 := (hbq.cell (p := ⟨lb, lo + k * 4 + 2, none⟩) llb).trans (hcl k hkm 2 (by decide)); have y3 := (hbq.cell (p := ⟨lb, lo + k * 4 + 3, none⟩) llb).trans (hcl k hkm 3 (by decide))
            rw [Nat.add_zero] at y0
            have hyM := HMT.out (l.getD k 0) (wo_mem i hl.out.1 _ (getD_mem (by rw [hl.out.2.1]; exact hkm)))
            by_cases hxy : l.getD k 0 = x
            · have HQ : Hid (∀ w : World, (Op.equalIn 10000 24 (.agg #[.int .u64 ((limb 0 (x) : Nat) : Int), .int .u64 ((limb 1 (x) : Nat) : Int), .int .u64 ((limb 2 (x) : Nat) : Int), .int .u64 ((limb 3 (x) : Nat) : Int)]) (.agg #[.int .u64 ((limb 0 (x) : Nat) : Int), .int .u64 ((limb 1 (x) : Nat) : Int), .int .u64 ((limb 2 (x) : Nat) : Int), .int .u64 ((limb 3 (x) : Nat) : Int)])).run Tryd.prog w = .ok true w) := fun w => by have h := HEQ.out x x HXM.out HXM.out w; rwa [decide_eq_true rfl] at h
              rw [hxy] at y0 y1 y2 y3
              have HIN : Hid (wo a T (i + 1) = some (l.take k ++ l.drop (k + 1)) ∧ (l.take k ++ l.drop (k + 1)).length = m - 1) := by
                have hmem : a.getD i 0 ∈ l := by rw [HX.out, ← hxy]; exact getD_mem (by rw [hl.out.2.1]; exact hkm)
                have e1 := erase_at x l k (by rw [hl.out.2.1]; exact hkm) hxy hno.out
                have e2 := wo_next_in hl.out.1 HFI.out hmem
                rw [HX.out, e1] at e2
                refine ⟨e2, ?_⟩
                rw [List.length_append, List.length_take, List.length_drop, hl.out.2.1]
                omega
              have hkne : ¬ (k : Int) = (m : Int) := by omega
              have hkne2 : ¬ k = m := by omega
              have hkc : (k : Int) ≤ (cl : Int) := by omega
              have hkc1 : (k : Int) + 1 ≤ (m : Int) := by omega
              have hmci : (m : Int) ≤ (cl : Int) := by omega
              go_upto_region 12 with fail
              refine wp_region_Z (fun w' => Below wr.heap.size wr w') 99 (by kernel_rfl) ?_
              obtain ⟨wD, hD⟩ : ∃ z : World, z = wr.drew := ⟨_, rfl⟩
              rw [← hD]
              have hp0 : Below wr.heap.size wr wD := by rw [hD]; exact (Below.refl _ _).drew
              clear hD
              refine zt 0 59 (.int .i64 (k : Int)) rfl rfl (fun w hSw => by go_simp) hp0 ?_
              simp only [Act.put, List.setIfInBounds_toArray]
              (try dsimp only [List.set_cons_zero, List.set_cons_succ])
              refine zt 1 60 (.slice (some ⟨lb, lo, none⟩) m cl) rfl rfl (fun w hSw => by go_simp) hp0 ?_
              simp only [Act.put, List.setIfInBounds_toArray]
              (try dsimp only [List.set_cons_zero, List.set_cons_succ])
              refine zt 2 61 (.int .i64 (m : Int)) rfl rfl (fun w hSw => by go_simp) hp0 ?_
              simp only [Act.put, List.setIfInBounds_toArray]
              (try dsimp only [List.set_cons_zero, List.set_cons_succ])
              refine zt 3 62 (.bool true) rfl rfl (fun w hSw => by go_simp) hp0 ?_
              simp only [Act.put, List.setIfInBounds_toArray]
              (try dsimp only [List.set_cons_zero, List.set_cons_succ])
              refine zt 4 63 (.bool true) rfl rfl (fun w hSw => by go_simp) hp0 ?_
              simp only [Act.put, List.setIfInBounds_toArray]
              (try dsimp only [List.set_cons_zero, List.set_cons_succ])
              refine zt 5 64 (.slice (some ⟨lb, lo, none⟩) m cl) rfl rfl (fun w hSw => by go_simp) hp0 ?_
              simp only [Act.put, List.setIfInBounds_toArray]
              (try dsimp only [List.set_cons_zero, List.set_cons_succ])
              refine zt 6 65 (.int .i64 (k : Int)) rfl rfl (fun w hSw => by go_simp) hp0 ?_
              simp only [Act.put, List.setIfInBounds_toArray]
              (try dsimp only [List.set_cons_zero, List.set_cons_succ])
              refine zt 7 66 (.pointer (some ⟨lb, lo + k * 4, none⟩)) rfl rfl (fun w hSw => by go_simp) hp0 ?_
              simp only [Act.put, List.setIfInBounds_toArray]
              (try dsimp only [List.set_cons_zero, List.set_cons_succ])
              refine zt 8 67 (.agg #[.int .u64 ((limb 0 (x) : Nat) : Int), .int .u64 ((limb 1 (x) : Nat) : Int), .int .u64 ((limb 2 (x) : Nat) : Int), .int .u64 ((limb 3 (x) : Nat) : Int)]) rfl rfl (fun w hSw => by (have y0x := ((hSw).cell (p := ⟨lb, lo + k * 4, none⟩) lbl).trans y0; have y1x := ((hSw).cell (p := ⟨lb, lo + k * 4 + 1, none⟩) lbl).trans y1; have y2x := ((hSw).cell (p := ⟨lb, lo + k * 4 + 2, none⟩) lbl).trans y2; have y3x := ((hSw).cell (p := ⟨lb, lo + k * 4 + 3, none⟩) lbl).trans y3); clear hSw; go_simp) hp0 ?_
              simp only [Act.put, List.setIfInBounds_toArray]
              (try dsimp only [List.set_cons_zero, List.set_cons_succ])
              refine zt 9 68 (.slice (some ⟨ab, ao, none⟩) n ca) rfl rfl (fun w hSw => by go_simp) hp0 ?_
              simp only [Act.put, List.setIfInBounds_toArray]
              (try dsimp only [List.set_cons_zero, List.set_cons_succ])
              refine zt 10 69 (.int .i64 (i : Int)) rfl rfl (fun w hSw => by go_simp) hp0 ?_
              simp only [Act.put, List.setIfInBounds_toArray]
              (try dsimp only [List.set_cons_zero, List.set_cons_succ])
              refine zt 11 70 (.pointer (some ⟨ab, ao + i * 4, none⟩)) rfl rfl (fun w hSw => by go_simp) hp0 ?_
              simp only [Act.put, List.setIfInBounds_toArray]
              (try dsimp only [List.set_cons_zero, List.set_cons_succ])
              refine zt 12 71 (.agg #[.int .u64 ((limb 0 (x) : Nat) : Int), .int .u64 ((limb 1 (x) : Nat) : Int), .int .u64 ((limb 2 (x) : Nat) : Int), .int .u64 ((limb 3 (x) : Nat) : Int)]) rfl rfl (fun w hSw => by (have x0x := ((hSw).cell (p := ⟨ab, ao + i * 4, none⟩) lab).trans x0; have x1x := ((hSw).cell (p := ⟨ab, ao + i * 4 + 1, none⟩) lab).trans x1; have x2x := ((hSw).cell (p := ⟨ab, ao + i * 4 + 2, none⟩) lab).trans x2; have x3x := ((hSw).cell (p := ⟨ab, ao + i * 4 + 3, none⟩) lab).trans x3); clear hSw; go_simp) hp0 ?_
              simp only [Act.put, List.setIfInBounds_toArray]
              (try dsimp only [List.set_cons_zero, List.set_cons_succ])
              refine zt 13 72 (.bool false) rfl rfl (fun w hSw => by have hq := HQ.out w; clear hSw; go_simp) hp0 ?_
              simp only [Act.put, List.setIfInBounds_toArray]
              (try dsimp only [List.set_cons_zero, List.set_cons_succ])
              refine zt 14 73 (.bool false) rfl rfl (fun w hSw => by go_simp) hp0 ?_
              simp only [Act.put, List.setIfInBounds_toArray]
              (try dsimp only [List.set_cons_zero, List.set_cons_succ])
              refine wpZ_done (by kernel_rfl) ?_ _
              have hbz := hbq.trans (hp0.mono hbq.size)
              obtain ⟨wz, ewz⟩ : ∃ z, z = wD := ⟨_, rfl⟩
              rw [← ewz] at hbz ⊢
              clear x0 x1 x2 x3 y0 y1 y2 y3 hbq lab lbl HQ hyM hxy
              have hLz : ∀ i, i < m → ∀ j, j < 4 → wz.cell? ⟨lb, lo + i * 4 + j, none⟩ = some (.int .u64 ((limb j (l.getD i 0) : Nat) : Int)) := fun i hi j hj => (hbz.cell (p := ⟨lb, lo + i * 4 + j, none⟩) llb).trans (hcl i hi j hj)
              have llz : lb < wz.heap.size := Nat.lt_of_lt_of_le llb hbz.size
              have hbW := hbq0.trans (hbz.mono hbq0.size)
              clear hbz ewz
              go_upto_region 17 with fail
              have hO0 := OwnL.none wz wz.heap.size (Nat.le_refl _)
              obtain ⟨B, eB⟩ : ∃ z, z = wz.heap.size := ⟨_, rfl⟩
              obtain ⟨wn, hwn⟩ : ∃ z : World, z = wz.alloc (.cells #[] 24) := ⟨_, rfl⟩
              have hbn : Below B wz wn := by rw [hwn, eB]; exact bAlloc (Below.refl _ _) _
              have lBwn : B ≤ wn.heap.size := by rw [eB]; rw [eB] at hbn; exact hbn.size
              have llB : lb < B := by rw [eB]; exact llz
              rw [← hwn, ← eB] at hO0
              rw [← hwn]
              try rw [← eB]
              have hLn : ∀ i, i < m → ∀ j, j < 4 → wn.cell? ⟨lb, lo + i * 4 + j, none⟩ = some (.int .u64 ((limb j (l.getD i 0) : Nat) : Int)) := fun i hi j hj => (hbn.cell (p := ⟨lb, lo + i * 4 + j, none⟩) llB).trans (hLz i hi j hj)
              have hll : l.length = m := hl.out.2.1
              have htk : (l.take k).length = k := by rw [List.length_take, hll]; omega
              have hdr : (l.drop (k + 1)).length = m - (k + 1) := by rw [List.length_drop, hll]
              obtain ⟨t0, et0⟩ : ∃ z : List Nat, z = [] := ⟨_, rfl⟩
              obtain ⟨t1, et1⟩ : ∃ z, z = l.take k := ⟨_, rfl⟩
              obtain ⟨t2, et2⟩ : ∃ z, z = l.drop (k + 1) := ⟨_, rfl⟩
              have HEJ : Hid ((t0 ++ t1) ++ t2 = l.take k ++ l.drop (k + 1)) := by show _ = _; rw [et0, et1, et2]; rfl
              have ht0 : Hid (t0.length = 0) := by rw [et0]; rfl
              have ht01 : t0.length ≤ 1 := by rw [ht0.out]; decide
              rw [← et0] at hO0
              have hg1 : ∀ i, i < k → t1.getD i 0 = l.getD (0 + i) 0 := fun i hi => by rw [et1, getD_take hi, Nat.zero_add]
              have hg2 : ∀ i, i < m - (k + 1) → t2.getD i 0 = l.getD (k + 1 + i) 0 := fun i hi => by rw [et2, List.getD_eq_getElem?_getD, List.getElem?_drop, List.getD_eq_getElem?_getD]
              rw [← et1] at htk
              rw [← et2] at hdr
              have S1 : Hid (∀ j u, (els (fun i => t1.getD i 0) t1.length)[j]? = some u → wn.cell? ((⟨lb, lo, none⟩ : Addr).add j) = some u) := by
                have h := part_cells (q := 0) hLn htk (by omega) hg1
                rwa [Nat.zero_mul, Nat.add_zero] at h
              have S1L : Hid ((els (fun i => t1.getD i 0) t1.length).length = k * 4) := by show _ = _; rw [els_len, htk]
              have S1N : Hid (t1.length = k) := htk
              have HHL : Hid (∀ w', Below B wn w' → ∀ j u, (els (fun i => t2.getD i 0) t2.length)[j]? = some u → w'.cell? ((⟨lb, lo + (k + 1) * 4, none⟩ : Addr).add j) = some u) := fun w' hb' => part_cells (n := m) (f := fun i => l.getD i 0) (q := k + 1) (fun i hi j hj => (hb'.cell (p := ⟨lb, lo + i * 4 + j, none⟩) llB).trans (hLn i hi j hj)) hdr (by omega) hg2
              have S2L : Hid ((els (fun i => t2.getD i 0) t2.length).length = (m - (k + 1)) * 4) := by show _ = _; rw [els_len, hdr]
              have S2N : Hid (t2.length = m - (k + 1)) := hdr
              have hbWB : Below w2.heap.size w2 wz := hbW
              have l2B : w2.heap.size ≤ B := by rw [eB]; exact hbW.size
              clear hwn eB hLz hll hbW llz hLn hcl llb eL0 et0 et1 et2 hg1 hg2 htk hdr
              go_wp2_with (first
                | (at_builtin; refine wpList_append_own _ rfl _ _ 25 rfl B 24 i0 (.agg #[.int .u64 0, .int .u64 0, .int .u64 0, .int .u64 0]) 4 32 Tryd.underlying25 HI.out HZ.out.1 HZ.out.2.1 HZ.out.2.2 rfl (by decide) _ _ _ rfl hO0 ⟨lb, lo, none⟩ k cl (els (fun i => t1.getD i 0) t1.length) rfl ?c0 ?c1 ?c2 ?c3 ?c4 ?c5 ?_)
                | go_in)
              case c0 => exact S1L.out
              case c1 => exact S1.out
              case c2 => intro u hu; unfold els at hu; obtain ⟨i, _, rfl⟩ := List.mem_map.mp hu; rfl
              case c3 => unfold maxLen; omega
              case c4 => omega
              case c5 => first | exact lBwn | omega
              intro v6 w6 own6' hgr6 _
              have own6 : OwnL w6 B v6 (t0 ++ t1) := OwnL.join S1N.out own6'
              have hbg6 : Below B wn w6 := (Below.refl _ wn).grown hgr6 lBwn (fun j hj => own_block_geE hO0 hj)
              have lBw6 : B ≤ w6.heap.size := Nat.le_trans lBwn hbg6.size
              clear own6' hgr6
              obtain ⟨t3, et3⟩ : ∃ z, z = t0 ++ t1 := ⟨_, rfl⟩
              have ht3 : t3.length ≤ k := by rw [et3, List.length_append, ht0.out, S1N.out]; omega
              rw [← et3] at own6 HEJ
              clear et3
              obtain ⟨A2, oA2, hoA2, hoA2b, hS2⟩ : ∃ (A2 : Addr) (oA2 : Option Addr), (if cl = k + 1 then some (⟨lb, lo, none⟩ : Addr) else some ⟨lb, lo + (k + 1) * 4, none⟩) = oA2 ∧ oA2 = some A2 ∧ ∀ j u, (els (fun i => t2.getD i 0) t2.length)[j]? = some u → w6.cell? (A2.add j) = some u := by
                by_cases h : cl = k + 1
                · refine ⟨⟨lb, lo, none⟩, _, by rw [if_pos h], rfl, fun j u hu => ?_⟩
                  have h0 : m - (k + 1) = 0 := by omega
                  have h1 := S2L.out
                  rw [h0, Nat.zero_mul] at h1
                  rw [List.length_eq_zero_iff.1 h1] at hu
                  simp at hu
                · exact ⟨⟨lb, lo + (k + 1) * 4, none⟩, _, by rw [if_neg h], rfl, HHL.out w6 hbg6⟩
              subst hoA2b
              have qA := hoA2
              have S2 : Hid (∀ j u, (els (fun i => t2.getD i 0) t2.length)[j]? = some u → w6.cell? (A2.add j) = some u) := hS2
              obtain ⟨k1, ek1⟩ : ∃ z, z = k + 1 := ⟨_, rfl⟩
              have hk1 : (k : Int) + 1 = (k1 : Int) := by omega
              have hk1m : (k1 : Int) ≤ (m : Int) := by omega
              rw [← ek1] at qA S2L S2N
              clear hS2 hoA2 HHL ek1
              go_wp2_with (first
                | (at_builtin; refine wpList_append_own _ rfl _ _ 25 rfl B 24 i0 (.agg #[.int .u64 0, .int .u64 0, .int .u64 0, .int .u64 0]) 4 32 Tryd.underlying25 HI.out HZ.out.1 HZ.out.2.1 HZ.out.2.2 rfl (by decide) _ _ _ rfl own6 A2 (m - k1) (cl - k1) (els (fun i => t2.getD i 0) t2.length) rfl ?c0 ?c1 ?c2 ?c3 ?c4 ?c5 ?_)
                | go_in)
              case c0 => exact S2L.out
              case c1 => exact S2.out
              case c2 => intro u hu; unfold els at hu; obtain ⟨i, _, rfl⟩ := List.mem_map.mp hu; rfl
              case c3 => unfold maxLen; omega
              case c4 => omega
              case c5 => first | exact lBw6 | omega
              intro v8 w8 own8' hgr8 _
              have own8 : OwnL w8 B v8 (t3 ++ t2) := OwnL.join S2N.out own8'
              have hbg8 : Below B w6 w8 := (Below.refl _ w6).grown hgr8 lBw6 (fun j hj => own_block_geE own6 hj)
              have lBw8 : B ≤ w8.heap.size := Nat.le_trans lBw6 hbg8.size
              clear own8' hgr8
              have hbW8 : Below w2.heap.size w2 w8 := hbWB.trans (((hbn.trans hbg6).trans hbg8).mono l2B)
              rw [HEJ.out] at own8
              have hE8 := own8.es
              rw [HIN.out.2] at hE8
              obtain ⟨oq, cq, rfl⟩ := hE8.shape
              clear own8 hbg8 hbg6 hbn hbWB own6 qA S2 S2L S1 S1L
              go_wp2
              go_roundw
              case measure => simp [intOf]; omega
              case rel => exact ⟨i + 1, m - 1, cq, oq, _, by go_num, rfl, by omega, ⟨HIN.out.1, HIN.out.2, by omega⟩, hE8, hbW8⟩
            · have HQ : Hid (∀ w : World, (Op.equalIn 10000 24 (.agg #[.int .u64 ((limb 0 (l.getD k 0) : Nat) : Int), .int .u64 ((limb 1 (l.getD k 0) : Nat) : Int), .int .u64 ((limb 2 (l.getD k 0) : Nat) : Int), .int .u64 ((limb 3 (l.getD k 0) : Nat) : Int)]) (.agg #[.int .u64 ((limb 0 (x) : Nat) : Int), .int .u64 ((limb 1 (x) : Nat) : Int), .int .u64 ((limb 2 (x) : Nat) : Int), .int .u64 ((limb 3 (x) : Nat) : Int)])).run Tryd.prog w = .ok false w) := fun w => by have h := HEQ.out (l.getD k 0) x hyM HXM.out w; rwa [decide_eq_false hxy] at h
              have HNO : Hid (∀ j, j < k + 1 → l.getD j 0 ≠ x) := fun j hj => by
                rcases Nat.lt_or_ge j k with h | h
                · exact hno.out j h
                · rw [show j = k from by omega]; exact hxy
              obtain ⟨y, ey⟩ : ∃ y, y = l.getD k 0 := ⟨_, rfl⟩
              rw [← ey] at y0 y1 y2 y3 HQ
              clear ey hxy hyM hcl
              go_upto_region 12 with fail
              refine wp_region_Z (fun w' => Below wr.heap.size wr w') 99 (by kernel_rfl) ?_
              obtain ⟨wD, hD⟩ : ∃ z : World, z = wr.drew := ⟨_, rfl⟩
              rw [← hD]
              have hp0 : Below wr.heap.size wr wD := by rw [hD]; exact (Below.refl _ _).drew
              clear hD
              refine zt 0 59 (.int .i64 (k : Int)) rfl rfl (fun w hSw => by go_simp) hp0 ?_
              simp only [Act.put, List.setIfInBounds_toArray]
              (try dsimp only [List.set_cons_zero, List.set_cons_succ])
              refine zt 1 60 (.slice (some ⟨lb, lo, none⟩) m cl) rfl rfl (fun w hSw => by go_simp) hp0 ?_
              simp only [Act.put, List.setIfInBounds_toArray]
              (try dsimp only [List.set_cons_zero, List.set_cons_succ])
              refine zt 2 61 (.int .i64 (m : Int)) rfl rfl (fun w hSw => by go_simp) hp0 ?_
              simp only [Act.put, List.setIfInBounds_toArray]
              (try dsimp only [List.set_cons_zero, List.set_cons_succ])
              refine zt 3 62 (.bool true) rfl rfl (fun w hSw => by go_simp) hp0 ?_
              simp only [Act.put, List.setIfInBounds_toArray]
              (try dsimp only [List.set_cons_zero, List.set_cons_succ])
              refine zt 4 63 (.bool true) rfl rfl (fun w hSw => by go_simp) hp0 ?_
              simp only [Act.put, List.setIfInBounds_toArray]
              (try dsimp only [List.set_cons_zero, List.set_cons_succ])
              refine zt 5 64 (.slice (some ⟨lb, lo, none⟩) m cl) rfl rfl (fun w hSw => by go_simp) hp0 ?_
              simp only [Act.put, List.setIfInBounds_toArray]
              (try dsimp only [List.set_cons_zero, List.set_cons_succ])
              refine zt 6 65 (.int .i64 (k : Int)) rfl rfl (fun w hSw => by go_simp) hp0 ?_
              simp only [Act.put, List.setIfInBounds_toArray]
              (try dsimp only [List.set_cons_zero, List.set_cons_succ])
              refine zt 7 66 (.pointer (some ⟨lb, lo + k * 4, none⟩)) rfl rfl (fun w hSw => by go_simp) hp0 ?_
              simp only [Act.put, List.setIfInBounds_toArray]
              (try dsimp only [List.set_cons_zero, List.set_cons_succ])
              refine zt 8 67 (.agg #[.int .u64 ((limb 0 (y) : Nat) : Int), .int .u64 ((limb 1 (y) : Nat) : Int), .int .u64 ((limb 2 (y) : Nat) : Int), .int .u64 ((limb 3 (y) : Nat) : Int)]) rfl rfl (fun w hSw => by (have y0x := ((hSw).cell (p := ⟨lb, lo + k * 4, none⟩) lbl).trans y0; have y1x := ((hSw).cell (p := ⟨lb, lo + k * 4 + 1, none⟩) lbl).trans y1; have y2x := ((hSw).cell (p := ⟨lb, lo + k * 4 + 2, none⟩) lbl).trans y2; have y3x := ((hSw).cell (p := ⟨lb, lo + k * 4 + 3, none⟩) lbl).trans y3); clear hSw; go_simp) hp0 ?_
              simp only [Act.put, List.setIfInBounds_toArray]
              (try dsimp only [List.set_cons_zero, List.set_cons_succ])
              refine zt 9 68 (.slice (some ⟨ab, ao, none⟩) n ca) rfl rfl (fun w hSw => by go_simp) hp0 ?_
              simp only [Act.put, List.setIfInBounds_toArray]
              (try dsimp only [List.set_cons_zero, List.set_cons_succ])
              refine zt 10 69 (.int .i64 (i : Int)) rfl rfl (fun w hSw => by go_simp) hp0 ?_
              simp only [Act.put, List.setIfInBounds_toArray]
              (try dsimp only [List.set_cons_zero, List.set_cons_succ])
              refine zt 11 70 (.pointer (some ⟨ab, ao + i * 4, none⟩)) rfl rfl (fun w hSw => by go_simp) hp0 ?_
              simp only [Act.put, List.setIfInBounds_toArray]
              (try dsimp only [List.set_cons_zero, List.set_cons_succ])
              refine zt 12 71 (.agg #[.int .u64 ((limb 0 (x) : Nat) : Int), .int .u64 ((limb 1 (x) : Nat) : Int), .int .u64 ((limb 2 (x) : Nat) : Int), .int .u64 ((limb 3 (x) : Nat) : Int)]) rfl rfl (fun w hSw => by (have x0x := ((hSw).cell (p := ⟨ab, ao + i * 4, none⟩) lab).trans x0; have x1x := ((hSw).cell (p := ⟨ab, ao + i * 4 + 1, none⟩) lab).trans x1; have x2x := ((hSw).cell (p := ⟨ab, ao + i * 4 + 2, none⟩) lab).trans x2; have x3x := ((hSw).cell (p := ⟨ab, ao + i * 4 + 3, none⟩) lab).trans x3); clear hSw; go_simp) hp0 ?_
              simp only [Act.put, List.setIfInBounds_toArray]
              (try dsimp only [List.set_cons_zero, List.set_cons_succ])
              refine zt 13 72 (.bool true) rfl rfl (fun w hSw => by have hq := HQ.out w; clear hSw; go_simp) hp0 ?_
              simp only [Act.put, List.setIfInBounds_toArray]
              (try dsimp only [List.set_cons_zero, List.set_cons_succ])
              refine zt 14 73 (.bool true) rfl rfl (fun w hSw => by go_simp) hp0 ?_
              simp only [Act.put, List.setIfInBounds_toArray]
              (try dsimp only [List.set_cons_zero, List.set_cons_succ])
              refine wpZ_done (by kernel_rfl) ?_ _
              have hbz := hbq.trans (hp0.mono hbq.size)
              clear x0 x1 x2 x3 y0 y1 y2 y3 hbq lab lbl HQ
              go_wp2
              go_roundw
              case measure => simp [intOf]; omega
              case rel => exact ⟨k + 1, by go_num, by omega, HNO.out, hbz⟩
          · have hkm2 : k = m := by omega
            subst hkm2
            have HNN : Hid (wo a T n = none) := by
              refine wo_none n (i := i + 1) ?_ (by omega)
              refine wo_next_out hl.out.1 HFI.out (fun hm => ?_)
              rw [HX.out] at hm
              obtain ⟨q, hq, e⟩ := mem_getD hm
              rw [hl.out.2.1] at hq
              exact hno.out q hq e
            go_upto_region 12 with fail
            refine wp_region_Z (fun w' => Below wr.heap.size wr w') 99 (by kernel_rfl) ?_
            obtain ⟨wD, hD⟩ : ∃ z : World, z = wr.drew := ⟨_, rfl⟩
            rw [← hD]
            have hp0 : Below wr.heap.size wr wD := by rw [hD]; exact (Below.refl _ _).drew
            clear hD
            refine zt 0 59 (.int .i64 (k : Int)) rfl rfl (fun w hSw => by go_simp) hp0 ?_
            simp only [Act.put, List.setIfInBounds_toArray]
            (try dsimp only [List.set_cons_zero, List.set_cons_succ])
            refine zt 1 60 (.slice ol k cl) rfl rfl (fun w hSw => by go_simp) hp0 ?_
            simp only [Act.put, List.setIfInBounds_toArray]
            (try dsimp only [List.set_cons_zero, List.set_cons_succ])
            refine zt 2 61 (.int .i64 (k : Int)) rfl rfl (fun w hSw => by go_simp) hp0 ?_
            simp only [Act.put, List.setIfInBounds_toArray]
            (try dsimp only [List.set_cons_zero, List.set_cons_succ])
            refine zt 3 62 (.bool false) rfl rfl (fun w hSw => by go_simp) hp0 ?_
            simp only [Act.put, List.setIfInBounds_toArray]
            (try dsimp only [List.set_cons_zero, List.set_cons_succ])
            refine zt 4 63 (.bool false) rfl rfl (fun w hSw => by go_simp) hp0 ?_
            simp only [Act.put, List.setIfInBounds_toArray]
            (try dsimp only [List.set_cons_zero, List.set_cons_succ])
            refine zu 5 64 rfl rfl hp0 ?_
            simp only [Act.put, List.setIfInBounds_toArray]
            (try dsimp only [List.set_cons_zero, List.set_cons_succ])
            refine zu 6 65 rfl rfl hp0 ?_
            simp only [Act.put, List.setIfInBounds_toArray]
            (try dsimp only [List.set_cons_zero, List.set_cons_succ])
            refine zu 7 66 rfl rfl hp0 ?_
            simp only [Act.put, List.setIfInBounds_toArray]
            (try dsimp only [List.set_cons_zero, List.set_cons_succ])
            refine zu 8 67 rfl rfl hp0 ?_
            simp only [Act.put, List.setIfInBounds_toArray]
            (try dsimp only [List.set_cons_zero, List.set_cons_succ])
            refine zu 9 68 rfl rfl hp0 ?_
            simp only [Act.put, List.setIfInBounds_toArray]
            (try dsimp only [List.set_cons_zero, List.set_cons_succ])
            refine zu 10 69 rfl rfl hp0 ?_
            simp only [Act.put, List.setIfInBounds_toArray]
            (try dsimp only [List.set_cons_zero, List.set_cons_succ])
            refine zu 11 70 rfl rfl hp0 ?_
            simp only [Act.put, List.setIfInBounds_toArray]
            (try dsimp only [List.set_cons_zero, List.set_cons_succ])
            refine zu 12 71 rfl rfl hp0 ?_
            simp only [Act.put, List.setIfInBounds_toArray]
            (try dsimp only [List.set_cons_zero, List.set_cons_succ])
            refine zu 13 72 rfl rfl hp0 ?_
            simp only [Act.put, List.setIfInBounds_toArray]
            (try dsimp only [List.set_cons_zero, List.set_cons_succ])
            refine zt 14 73 (.bool false) rfl rfl (fun w hSw => by go_simp) hp0 ?_
            simp only [Act.put, List.setIfInBounds_toArray]
            (try dsimp only [List.set_cons_zero, List.set_cons_succ])
            refine wpZ_done (by kernel_rfl) ?_ _
            have hbz := hbq0.trans ((hbq.trans (hp0.mono hbq.size)).mono hbq0.size)
            have hbf := hbw2.trans (hbz.mono hbw2.size)
            clear x0 x1 x2 x3 hbq lab
            go_wp2
            refine bodyPost_ret (v := .tuple #[.slice none 0 0, .slice none 0 0, .int .i64 200]) (by simp [results, Tryd.results12, go_sem]) rfl ⟨HE1.out _ HNN.out, hbf⟩
      · have hf2 : isF a i = false := by simpa using hf
        have hi0 : i ≠ 0 := fun h => by rw [h] at hf2; cases hf2
        have HSK : Hid (wo a T (i + 1) = some l) := wo_next_skip hl.out.1 hf2
        obtain ⟨k, ek⟩ : ∃ k, k = i - 1 := ⟨_, rfl⟩
        rw [isF_k hi0, ← ek] at hf2
        have hxy : a.getD i 0 = a.getD k 0 := by simpa using hf2
        have y0 := hAr k (by omega) 0 (by decide); have y1 := hAr k (by omega) 1 (by decide); have y2 := hAr k (by omega) 2 (by decide); have y3 := hAr k (by omega) 3 (by decide)
        rw [Nat.add_zero] at y0
        rw [← hxy] at y0 y1 y2 y3
        have hq := HEQ.out (a.getD i 0) (a.getD i 0) (HMA.out i hlt) (HMA.out i hlt)
        rw [decide_eq_true rfl] at hq
        have HQ : Hid (∀ w : World, _) := hq
        obtain ⟨x, ex⟩ : ∃ x, x = a.getD i 0 := ⟨_, rfl⟩
        rw [← ex] at x0 x1 x2 x3 y0 y1 y2 y3 HQ
        have hk1 : (i : Int) - 1 = (k : Int) := by omega
        have hkw : IntKind.i64.wrap (k : Int) = (k : Int) := wrap_i64_nat k (by omega)
        have hkn : (k : Int) < (n : Int) := by omega
        have hi1 : (0 : Int) < (i : Int) := by omega
        have hi2 : 0 < i := by omega
        clear hq hxy hf hf2 ex ek hAr
        go_upto_region 10 with fail
        refine wp_region_Z (fun w' => Below wr.heap.size wr w') 99 (by kernel_rfl) ?_
        obtain ⟨wD, hD⟩ : ∃ z : World, z = wr.drew := ⟨_, rfl⟩
        rw [← hD]
        have hp0 : Below wr.heap.size wr wD := by rw [hD]; exact (Below.refl _ _).drew
        clear hD
        refine zt 0 45 (.int .i64 (i : Int)) rfl rfl (fun w hSw => by go_simp) hp0 ?_
        simp only [Act.put, List.setIfInBounds_toArray]
        (try dsimp only [List.set_cons_zero, List.set_cons_succ])
        refine zt 1 46 (.bool true) rfl rfl (fun w hSw => by go_simp) hp0 ?_
        simp only [Act.put, List.setIfInBounds_toArray]
        (try dsimp only [List.set_cons_zero, List.set_cons_succ])
        refine zt 2 47 (.bool true) rfl rfl (fun w hSw => by go_simp) hp0 ?_
        simp only [Act.put, List.setIfInBounds_toArray]
        (try dsimp only [List.set_cons_zero, List.set_cons_succ])
        refine zt 3 48 (.slice (some ⟨ab, ao, none⟩) n ca) rfl rfl (fun w hSw => by go_simp) hp0 ?_
        simp only [Act.put, List.setIfInBounds_toArray]
        (try dsimp only [List.set_cons_zero, List.set_cons_succ])
        refine zt 4 49 (.int .i64 (i : Int)) rfl rfl (fun w hSw => by go_simp) hp0 ?_
        simp only [Act.put, List.setIfInBounds_toArray]
        (try dsimp only [List.set_cons_zero, List.set_cons_succ])
        refine zt 5 50 (.pointer (some ⟨ab, ao + i * 4, none⟩)) rfl rfl (fun w hSw => by go_simp) hp0 ?_
        simp only [Act.put, List.setIfInBounds_toArray]
        (try dsimp only [List.set_cons_zero, List.set_cons_succ])
        refine zt 6 51 (.agg #[.int .u64 ((limb 0 (x) : Nat) : Int), .int .u64 ((limb 1 (x) : Nat) : Int), .int .u64 ((limb 2 (x) : Nat) : Int), .int .u64 ((limb 3 (x) : Nat) : Int)]) rfl rfl (fun w hSw => by (have x0x := ((hSw).cell (p := ⟨ab, ao + i * 4, none⟩) lab).trans x0; have x1x := ((hSw).cell (p := ⟨ab, ao + i * 4 + 1, none⟩) lab).trans x1; have x2x := ((hSw).cell (p := ⟨ab, ao + i * 4 + 2, none⟩) lab).trans x2; have x3x := ((hSw).cell (p := ⟨ab, ao + i * 4 + 3, none⟩) lab).trans x3); clear hSw; go_simp) hp0 ?_
        simp only [Act.put, List.setIfInBounds_toArray]
        (try dsimp only [List.set_cons_zero, List.set_cons_succ])
        refine zt 7 52 (.slice (some ⟨ab, ao, none⟩) n ca) rfl rfl (fun w hSw => by go_simp) hp0 ?_
        simp only [Act.put, List.setIfInBounds_toArray]
        (try dsimp only [List.set_cons_zero, List.set_cons_succ])
        refine zt 8 53 (.int .i64 (i : Int)) rfl rfl (fun w hSw => by go_simp) hp0 ?_
        simp only [Act.put, List.setIfInBounds_toArray]
        (try dsimp only [List.set_cons_zero, List.set_cons_succ])
        refine zt 9 54 (.int .i64 (k : Int)) rfl rfl (fun w hSw => by go_simp) hp0 ?_
        simp only [Act.put, List.setIfInBounds_toArray]
        (try dsimp only [List.set_cons_zero, List.set_cons_succ])
        refine zt 10 55 (.pointer (some ⟨ab, ao + k * 4, none⟩)) rfl rfl (fun w hSw => by go_simp) hp0 ?_
        simp only [Act.put, List.setIfInBounds_toArray]
        (try dsimp only [List.set_cons_zero, List.set_cons_succ])
        refine zt 11 56 (.agg #[.int .u64 ((limb 0 (x) : Nat) : Int), .int .u64 ((limb 1 (x) : Nat) : Int), .int .u64 ((limb 2 (x) : Nat) : Int), .int .u64 ((limb 3 (x) : Nat) : Int)]) rfl rfl (fun w hSw => by (have y0x := ((hSw).cell (p := ⟨ab, ao + k * 4, none⟩) lab).trans y0; have y1x := ((hSw).cell (p := ⟨ab, ao + k * 4 + 1, none⟩) lab).trans y1; have y2x := ((hSw).cell (p := ⟨ab, ao + k * 4 + 2, none⟩) lab).trans y2; have y3x := ((hSw).cell (p := ⟨ab, ao + k * 4 + 3, none⟩) lab).trans y3); clear hSw; go_simp) hp0 ?_
        simp only [Act.put, List.setIfInBounds_toArray]
        (try dsimp only [List.set_cons_zero, List.set_cons_succ])
        refine zt 12 57 (.bool true) rfl rfl (fun w hSw => by have hq := HQ.out w; clear hSw; go_simp) hp0 ?_
        simp only [Act.put, List.setIfInBounds_toArray]
        (try dsimp only [List.set_cons_zero, List.set_cons_succ])
        refine zt 13 58 (.bool true) rfl rfl (fun w hSw => by go_simp) hp0 ?_
        simp only [Act.put, List.setIfInBounds_toArray]
        (try dsimp only [List.set_cons_zero, List.set_cons_succ])
        refine wpZ_done (by kernel_rfl) ?_ _
        have hbz := hb.trans (hp0.mono hb.size)
        have eLz := eL.below hp0
        clear x0 x1 x2 x3 y0 y1 y2 y3 hb lab HQ eL
        go_wp2
        go_roundw
        case measure => simp [intOf]; omega
        case rel => exact ⟨i + 1, m, cl, ol, l, by go_num, rfl, by omega, ⟨HSK.out, hl.out.2.1, hl.out.2.2⟩, eLz, hbz⟩
    · have hii : ¬ (i : Int) < (n : Int) := by omega
      obtain rfl : i = n := by omega
      obtain ⟨we, ewe⟩ : ∃ z, z = wr := ⟨_, rfl⟩
      rw [← ewe] at eL hb ⊢
      clear ewe
      have HWL : Hid (wo a T i = some l ∧ l.length = m ∧ nf a i = m) := ⟨hl.out.1, hl.out.2.1, by have h := wo_len i hl.out.1; rw [HLT.out, hl.out.2.1] at h; omega⟩
      have HLM : Hid (∀ v, v ∈ l → v < 115792089237316195423570985008687907853269984665640564039457584007913129639936) := fun v hv => HMT.out v (wo_mem i hl.out.1 v hv)
      have HEL : Hid (Es we (.slice ol m cl) m (fun i => l.getD i 0)) := eL
      have hOB := OwnL.none we we.heap.size (Nat.le_refl _)
      clear hl eL HT2 HE1
      go_upto_region 21 with fail
      obtain ⟨B, eB⟩ : ∃ z, z = we.heap.size := ⟨_, rfl⟩
      obtain ⟨wn, hwn⟩ : ∃ z : World, z = we.alloc (.cells #[] 24) := ⟨_, rfl⟩
      have hbn : Below B we wn := by rw [hwn, eB]; exact bAlloc (Below.refl _ _) _
      have lBn : B ≤ wn.heap.size := by rw [eB]; rw [eB] at hbn; exact hbn.size
      rw [← hwn, ← eB] at hOB
      rw [← hwn]
      try rw [← eB]
      have l2B : w2.heap.size ≤ B := by rw [eB]; exact hb.size
      have HEB : Hid (we.heap.size = B) := eB.symm
      clear hwn eB
      go_wp2
      go_loopw [14, 15, 16] (fun bv qv iv wr => ∃ (j q : Nat), iv = .int .i64 (j : Int) ∧ qv = .int .i64 (q : Int) ∧ j ≤ i ∧ Hid (q = nf a j) ∧ OwnL wr B bv (fl j (mtF a l)) ∧ Below B we wr ∧ B ≤ wr.heap.size) (fun _ _ iv _ => i - (intOf iv).toNat)
      case atStart => exact ⟨0, 0, rfl, rfl, Nat.zero_le _, rfl, hOB, hbn, lBn⟩
      case round =>
        obtain ⟨j, q, rfl, rfl, hj, hqn, own, hbe, lBwr⟩ := hrel
        clear hOB hbn lBn
        by_cases hji : j < i
        · have hjii : (j : Int) < (i : Int) := by omega
          rcases HA2.out.open with ⟨_, h0, _⟩ | ⟨ab, ao, rfl, _, _, lab2, hcA⟩
          · omega
          have labB : ab < B := Nat.lt_of_lt_of_le lab2 l2B
          have lab : ab < wr.heap.size := Nat.lt_of_lt_of_le labB lBwr
          have hAr : ∀ t, t < i → ∀ j, j < 4 → wr.cell? ⟨ab, ao + t * 4 + j, none⟩ = some (.int .u64 ((limb j (a.getD t 0) : Nat) : Int)) := fun t ht j hj => (hbe.cell (p := ⟨ab, ao + t * 4 + j, none⟩) labB).trans ((hb.cell (p := ⟨ab, ao + t * 4 + j, none⟩) lab2).trans (hcA t ht j hj))
          have x0 := hAr j hji 0 (by decide); have x1 := hAr j hji 1 (by decide); have x2 := hAr j hji 2 (by decide); have x3 := hAr j hji 3 (by decide)
          rw [Nat.add_zero] at x0
          have hfl := fl_succ j (mtF a l)
          have hal : (fl j (mtF a l)).length ≤ j := by rw [fl_len]; exact Nat.le_refl _
          have HMA2 : Hid (∀ t, t < i → a.getD t 0 < 115792089237316195423570985008687907853269984665640564039457584007913129639936) := HMA.out
          obtain ⟨L, eLL⟩ : ∃ z, z = fl j (mtF a l) := ⟨_, rfl⟩
          rw [← eLL] at own hal hfl
          clear eLL
          by_cases hf : isF a j = true
          · have HN : Hid (fl (j + 1) (mtF a l) = L ++ [a.getD j 0]) := by show _ = _; rw [hfl, mtF_first hf]
            have HQN : Hid (q = nf a (j + 1)) := by show _ = _; rw [nf_first hf]; exact hqn.out
            have HFI : Hid (isF a j = true) := hf
            clear hf hfl hqn
            go_upto_region 24 with fail
            go_cut [112] (fun p wx => p = .bool false ∧ Below wr.heap.size wr wx)
            case first =>
              by_cases hj0 : j = 0
              · subst hj0
                refine wp_region_Z (fun w' => Below wr.heap.size wr w') 99 (by kernel_rfl) ?_
                obtain ⟨wD, hD⟩ : ∃ z : World, z = wr.drew := ⟨_, rfl⟩
                rw [← hD]
                have hp0 : Below wr.heap.size wr wD := by rw [hD]; exact (Below.refl _ _).drew
                clear hD
                refine zt 0 99 (.int .i64 0) rfl rfl (fun w hSw => by go_simp) hp0 ?_
                simp only [Act.put, List.setIfInBounds_toArray]
                (try dsimp only [List.set_cons_zero, List.set_cons_succ])
                refine zt 1 100 (.bool false) rfl rfl (fun w hSw => by go_simp) hp0 ?_
                simp only [Act.put, List.setIfInBounds_toArray]
                (try dsimp only [List.set_cons_zero, List.set_cons_succ])
                refine zt 2 101 (.bool false) rfl rfl (fun w hSw => by go_simp) hp0 ?_
                simp only [Act.put, List.setIfInBounds_toArray]
                (try dsimp only [List.set_cons_zero, List.set_cons_succ])
                refine zu 3 102 rfl rfl hp0 ?_
                simp only [Act.put, List.setIfInBounds_toArray]
                (try dsimp only [List.set_cons_zero, List.set_cons_succ])
                refine zu 4 103 rfl rfl hp0 ?_
                simp only [Act.put, List.setIfInBounds_toArray]
                (try dsimp only [List.set_cons_zero, List.set_cons_succ])
                refine zu 5 104 rfl rfl hp0 ?_
                simp only [Act.put, List.setIfInBounds_toArray]
                (try dsimp only [List.set_cons_zero, List.set_cons_succ])
                refine zu 6 105 rfl rfl hp0 ?_
                simp only [Act.put, List.setIfInBounds_toArray]
                (try dsimp only [List.set_cons_zero, List.set_cons_succ])
                refine zu 7 106 rfl rfl hp0 ?_
                simp only [Act.put, List.setIfInBounds_toArray]
                (try dsimp only [List.set_cons_zero, List.set_cons_succ])
                refine zu 8 107 rfl rfl hp0 ?_
                simp only [Act.put, List.setIfInBounds_toArray]
                (try dsimp only [List.set_cons_zero, List.set_cons_succ])
                refine zu 9 108 rfl rfl hp0 ?_
                simp only [Act.put, List.setIfInBounds_toArray]
                (try dsimp only [List.set_cons_zero, List.set_cons_succ])
                refine zu 10 109 rfl rfl hp0 ?_
                simp only [Act.put, List.setIfInBounds_toArray]
                (try dsimp only [List.set_cons_zero, List.set_cons_succ])
                refine zu 11 110 rfl rfl hp0 ?_
                simp only [Act.put, List.setIfInBounds_toArray]
                (try dsimp only [List.set_cons_zero, List.set_cons_succ])
                refine zu 12 111 rfl rfl hp0 ?_
                simp only [Act.put, List.setIfInBounds_toArray]
                (try dsimp only [List.set_cons_zero, List.set_cons_succ])
                refine zt 13 112 (.bool false) rfl rfl (fun w hSw => by go_simp) hp0 ?_
                simp only [Act.put, List.setIfInBounds_toArray]
                (try dsimp only [List.set_cons_zero, List.set_cons_succ])
                refine wpZ_done (by kernel_rfl) ?_ _
                go_wp2_with fail
                go_meet
                exact ⟨rfl, hp0⟩
              · obtain ⟨k, ek⟩ : ∃ k, k = j - 1 := ⟨_, rfl⟩
                have y0 := hAr k (by omega) 0 (by decide); have y1 := hAr k (by omega) 1 (by decide); have y2 := hAr k (by omega) 2 (by decide); have y3 := hAr k (by omega) 3 (by decide)
                rw [Nat.add_zero] at y0
                have hq := HEQ.out (a.getD j 0) (a.getD k 0) (HMA2.out j hji) (HMA2.out k (by omega))
                have hF := HFI.out
                rw [isF_k hj0, ← ek] at hF
                have hF2 : decide (a.getD j 0 = a.getD k 0) = false := by simpa using hF
                rw [hF2] at hq
                have HQ : Hid (∀ w : World, _) := hq
                obtain ⟨x, ex⟩ : ∃ x, x = a.getD j 0 := ⟨_, rfl⟩
                obtain ⟨y, ey⟩ : ∃ y, y = a.getD k 0 := ⟨_, rfl⟩
                rw [← ex] at x0 x1 x2 x3 HQ
                rw [← ey] at y0 y1 y2 y3 HQ
                have hk1 : (j : Int) - 1 = (k : Int) := by omega
                have hkw : IntKind.i64.wrap (k : Int) = (k : Int) := wrap_i64_nat k (by omega)
                have hkn : (k : Int) < (i : Int) := by omega
                have hi1 : (0 : Int) < (j : Int) := by omega
                have hi2 : 0 < j := by omega
                clear hq hF hF2 ex ey ek hAr
                refine wp_region_Z (fun w' => Below wr.heap.size wr w') 99 (by kernel_rfl) ?_
                obtain ⟨wD, hD⟩ : ∃ z : World, z = wr.drew := ⟨_, rfl⟩
                rw [← hD]
                have hp0 : Below wr.heap.size wr wD := by rw [hD]; exact (Below.refl _ _).drew
                clear hD
                refine zt 0 99 (.int .i64 (j : Int)) rfl rfl (fun w hSw => by go_simp) hp0 ?_
                simp only [Act.put, List.setIfInBounds_toArray]
                (try dsimp only [List.set_cons_zero, List.set_cons_succ])
                refine zt 1 100 (.bool true) rfl rfl (fun w hSw => by go_simp) hp0 ?_
                simp only [Act.put, List.setIfInBounds_toArray]
                (try dsimp only [List.set_cons_zero, List.set_cons_succ])
                refine zt 2 101 (.bool true) rfl rfl (fun w hSw => by go_simp) hp0 ?_
                simp only [Act.put, List.setIfInBounds_toArray]
                (try dsimp only [List.set_cons_zero, List.set_cons_succ])
                refine zt 3 102 (.slice (some ⟨ab, ao, none⟩) i ca) rfl rfl (fun w hSw => by go_simp) hp0 ?_
                simp only [Act.put, List.setIfInBounds_toArray]
                (try dsimp only [List.set_cons_zero, List.set_cons_succ])
                refine zt 4 103 (.int .i64 (j : Int)) rfl rfl (fun w hSw => by go_simp) hp0 ?_
                simp only [Act.put, List.setIfInBounds_toArray]
                (try dsimp only [List.set_cons_zero, List.set_cons_succ])
                refine zt 5 104 (.pointer (some ⟨ab, ao + j * 4, none⟩)) rfl rfl (fun w hSw => by go_simp) hp0 ?_
                simp only [Act.put, List.setIfInBounds_toArray]
                (try dsimp only [List.set_cons_zero, List.set_cons_succ])
                refine zt 6 105 (.agg #[.int .u64 ((limb 0 (x) : Nat) : Int), .int .u64 ((limb 1 (x) : Nat) : Int), .int .u64 ((limb 2 (x) : Nat) : Int), .int .u64 ((limb 3 (x) : Nat) : Int)]) rfl rfl (fun w hSw => by (have x0x := ((hSw).cell (p := ⟨ab, ao + j * 4, none⟩) lab).trans x0; have x1x := ((hSw).cell (p := ⟨ab, ao + j * 4 + 1, none⟩) lab).trans x1; have x2x := ((hSw).cell (p := ⟨ab, ao + j * 4 + 2, none⟩) lab).trans x2; have x3x := ((hSw).cell (p := ⟨ab, ao + j * 4 + 3, none⟩) lab).trans x3); clear hSw; go_simp) hp0 ?_
                simp only [Act.put, List.setIfInBounds_toArray]
                (try dsimp only [List.set_cons_zero, List.set_cons_succ])
                refine zt 7 106 (.slice (some ⟨ab, ao, none⟩) i ca) rfl rfl (fun w hSw => by go_simp) hp0 ?_
                simp only [Act.put, List.setIfInBounds_toArray]
                (try dsimp only [List.set_cons_zero, List.set_cons_succ])
                refine zt 8 107 (.int .i64 (j : Int)) rfl rfl (fun w hSw => by go_simp) hp0 ?_
                simp only [Act.put, List.setIfInBounds_toArray]
                (try dsimp only [List.set_cons_zero, List.set_cons_succ])
                refine zt 9 108 (.int .i64 (k : Int)) rfl rfl (fun w hSw => by go_simp) hp0 ?_
                simp only [Act.put, List.setIfInBounds_toArray]
                (try dsimp only [List.set_cons_zero, List.set_cons_succ])
                refine zt 10 109 (.pointer (some ⟨ab, ao + k * 4, none⟩)) rfl rfl (fun w hSw => by go_simp) hp0 ?_
                simp only [Act.put, List.setIfInBounds_toArray]
                (try dsimp only [List.set_cons_zero, List.set_cons_succ])
                refine zt 11 110 (.agg #[.int .u64 ((limb 0 (y) : Nat) : Int), .int .u64 ((limb 1 (y) : Nat) : Int), .int .u64 ((limb 2 (y) : Nat) : Int), .int .u64 ((limb 3 (y) : Nat) : Int)]) rfl rfl (fun w hSw => by (have y0x := ((hSw).cell (p := ⟨ab, ao + k * 4, none⟩) lab).trans y0; have y1x := ((hSw).cell (p := ⟨ab, ao + k * 4 + 1, none⟩) lab).trans y1; have y2x := ((hSw).cell (p := ⟨ab, ao + k * 4 + 2, none⟩) lab).trans y2; have y3x := ((hSw).cell (p := ⟨ab, ao + k * 4 + 3, none⟩) lab).trans y3); clear hSw; go_simp) hp0 ?_
                simp only [Act.put, List.setIfInBounds_toArray]
                (try dsimp only [List.set_cons_zero, List.set_cons_succ])
                refine zt 12 111 (.bool false) rfl rfl (fun w hSw => by have hq := HQ.out w; clear hSw; go_simp) hp0 ?_
                simp only [Act.put, List.setIfInBounds_toArray]
                (try dsimp only [List.set_cons_zero, List.set_cons_succ])
                refine zt 13 112 (.bool false) rfl rfl (fun w hSw => by go_simp) hp0 ?_
                simp only [Act.put, List.setIfInBounds_toArray]
                (try dsimp only [List.set_cons_zero, List.set_cons_succ])
                refine wpZ_done (by kernel_rfl) ?_ _
                go_wp2_with fail
                go_meet
                exact ⟨rfl, hp0⟩
            obtain ⟨rfl, hbx⟩ := hcut
            obtain ⟨wq, ewq⟩ : ∃ z, z = wc := ⟨_, rfl⟩
            rw [← ewq] at hbx ⊢
            have ownq := own.below hbx
            have hbeq := hbe.trans (hbx.mono lBwr)
            have lBwq : B ≤ wq.heap.size := Nat.le_trans lBwr hbx.size
            have u0 := (hbx.cell (p := ⟨ab, ao + j * 4, none⟩) lab).trans x0; have u1 := (hbx.cell (p := ⟨ab, ao + j * 4 + 1, none⟩) lab).trans x1; have u2 := (hbx.cell (p := ⟨ab, ao + j * 4 + 2, none⟩) lab).trans x2; have u3 := (hbx.cell (p := ⟨ab, ao + j * 4 + 3, none⟩) lab).trans x3
            obtain ⟨x, ex⟩ : ∃ x, x = a.getD j 0 := ⟨_, rfl⟩
            rw [← ex] at u0 u1 u2 u3 HN
            clear ewq hbx own hbe lBwr x0 x1 x2 x3 hAr ex lab
            go_wp2_with (first
              | (at_builtin; refine wpList_append_own _ rfl _ _ 25 rfl B 24 i0 (.agg #[.int .u64 0, .int .u64 0, .int .u64 0, .int .u64 0]) 4 32 Tryd.underlying25 HI.out HZ.out.1 HZ.out.2.1 HZ.out.2.2 rfl (by decide) _ _ _ rfl (ownq.alloc _) ⟨wq.heap.size, 0, none⟩ 1 1 [.int .u64 ((limb 0 x : Nat) : Int), .int .u64 ((limb 1 x : Nat) : Int), .int .u64 ((limb 2 x : Nat) : Int), .int .u64 ((limb 3 x : Nat) : Int)] rfl rfl ?c1 ?c2 ?c3 ?c4 ?c5 ?_)
              | go_in)
            try
              case c1 =>
                intro j u hj
                match j, hj with
                | 0, hj => simp at hj; subst hj; simp [Addr.add]
                | 1, hj => simp at hj; subst hj; simp [Addr.add]
                | 2, hj => simp at hj; subst hj; simp [Addr.add]
                | 3, hj => simp at hj; subst hj; simp [Addr.add]
                | j + 4, hj => simp at hj
            case c2 => first | exact ⟨rfl, rfl, rfl, rfl⟩ | (intro u hu; simp at hu; rcases hu with rfl | rfl | rfl | rfl <;> rfl)
            case c3 => unfold maxLen; omega
            case c4 => omega
            case c5 => first | omega | (simp; omega)
            intro v6 w6 own6' hgr6 _
            have own6 := OwnL.push own6'
            have hbg6 : Below B wq w6 := ((Below.refl _ wq).alloc lBwq _).grown hgr6 (by simp; omega) (fun j hj => own_block_geE ownq hj)
            have lBw6 : B ≤ w6.heap.size := Nat.le_trans lBwq hbg6.size
            clear own6' hgr6
            have hb6 : Below B we w6 := hbeq.trans hbg6
            rw [← HN.out] at own6
            clear ownq hbeq hbg6 u0 u1 u2 u3
            go_wp2
            go_roundw
            case measure => simp [intOf]; omega
            case rel => exact ⟨j + 1, q, by go_num, rfl, by omega, HQN, own6, hb6, lBw6⟩
          · have hf2 : isF a j = false := by simpa using hf
            have hj0 : j ≠ 0 := fun h => by rw [h] at hf2; cases hf2
            have HQN : Hid (q + 1 = nf a (j + 1)) := by show _ = _; rw [nf_other hf2, ← hqn.out]
            have HN : Hid (fl (j + 1) (mtF a l) = L ++ [l.getD q 0]) := by show _ = _; rw [hfl, mtF_other hf2, ← hqn.out]
            have hmn : m ≤ i := by rw [← HWL.out.2.2]; exact nf_le a i
            have hqm : q < m := by have h1 := nf_mono a (j + 1) i (by omega); have h2 := HWL.out.2.2; have h3 := HQN.out; omega
            obtain ⟨k, ek⟩ : ∃ k, k = j - 1 := ⟨_, rfl⟩
            rw [isF_k hj0, ← ek] at hf2
            have hxy : a.getD j 0 = a.getD k 0 := by simpa using hf2
            have y0 := hAr k (by omega) 0 (by decide); have y1 := hAr k (by omega) 1 (by decide); have y2 := hAr k (by omega) 2 (by decide); have y3 := hAr k (by omega) 3 (by decide)
            rw [Nat.add_zero] at y0
            rw [← hxy] at y0 y1 y2 y3
            have hq := HEQ.out (a.getD j 0) (a.getD j 0) (HMA2.out j hji) (HMA2.out j hji)
            rw [decide_eq_true rfl] at hq
            have HQ : Hid (∀ w : World, _) := hq
            obtain ⟨x, ex⟩ : ∃ x, x = a.getD j 0 := ⟨_, rfl⟩
            rw [← ex] at x0 x1 x2 x3 y0 y1 y2 y3 HQ
            have hk1 : (j : Int) - 1 = (k : Int) := by omega
            have hkw : IntKind.i64.wrap (k : Int) = (k : Int) := wrap_i64_nat k (by omega)
            have hkn : (k : Int) < (i : Int) := by omega
            have hi1 : (0 : Int) < (j : Int) := by omega
            have hi2 : 0 < j := by omega
            rcases HEL.out.open with ⟨_, h0, _⟩ | ⟨lb, lo, rfl, _, _, llb, hcl⟩
            · omega
            have llB : lb < B := by rw [← HEB.out]; exact llb
            have hqi : (q : Int) < (m : Int) := by omega
            obtain ⟨z, ez⟩ : ∃ z, z = l.getD q 0 := ⟨_, rfl⟩
            have z0 := (hbe.cell (p := ⟨lb, lo + q * 4 + 0, none⟩) llB).trans (hcl q hqm 0 (by decide)); have z1 := (hbe.cell (p := ⟨lb, lo + q * 4 + 1, none⟩) llB).trans (hcl q hqm 1 (by decide)); have z2 := (hbe.cell (p := ⟨lb, lo + q * 4 + 2, none⟩) llB).trans (hcl q hqm 2 (by decide)); have z3 := (hbe.cell (p := ⟨lb, lo + q * 4 + 3, none⟩) llB).trans (hcl q hqm 3 (by decide))
            rw [Nat.add_zero] at z0
            rw [← ez] at z0 z1 z2 z3 HN
            have lbw : lb < wr.heap.size := Nat.lt_of_lt_of_le llB lBwr
            clear hq hxy hf hf2 hfl ex ek ez hAr hcl hqn
            go_upto_region 24 with fail
            refine wp_region_Z (fun w' => Below wr.heap.size wr w') 99 (by kernel_rfl) ?_
            obtain ⟨wD, hD⟩ : ∃ z : World, z = wr.drew := ⟨_, rfl⟩
            rw [← hD]
            have hp0 : Below wr.heap.size wr wD := by rw [hD]; exact (Below.refl _ _).drew
            clear hD
            refine zt 0 99 (.int .i64 (j : Int)) rfl rfl (fun w hSw => by go_simp) hp0 ?_
            simp only [Act.put, List.setIfInBounds_toArray]
            (try dsimp only [List.set_cons_zero, List.set_cons_succ])
            refine zt 1 100 (.bool true) rfl rfl (fun w hSw => by go_simp) hp0 ?_
            simp only [Act.put, List.setIfInBounds_toArray]
            (try dsimp only [List.set_cons_zero, List.set_cons_succ])
            refine zt 2 101 (.bool true) rfl rfl (fun w hSw => by go_simp) hp0 ?_
            simp only [Act.put, List.setIfInBounds_toArray]
            (try dsimp only [List.set_cons_zero, List.set_cons_succ])
            refine zt 3 102 (.slice (some ⟨ab, ao, none⟩) i ca) rfl rfl (fun w hSw => by go_simp) hp0 ?_
            simp only [Act.put, List.setIfInBounds_toArray]
            (try dsimp only [List.set_cons_zero, List.set_cons_succ])
            refine zt 4 103 (.int .i64 (j : Int)) rfl rfl (fun w hSw => by go_simp) hp0 ?_
            simp only [Act.put, List.setIfInBounds_toArray]
            (try dsimp only [List.set_cons_zero, List.set_cons_succ])
            refine zt 5 104 (.pointer (some ⟨ab, ao + j * 4, none⟩)) rfl rfl (fun w hSw => by go_simp) hp0 ?_
            simp only [Act.put, List.setIfInBounds_toArray]
            (try dsimp only [List.set_cons_zero, List.set_cons_succ])
            refine zt 6 105 (.agg #[.int .u64 ((limb 0 (x) : Nat) : Int), .int .u64 ((limb 1 (x) : Nat) : Int), .int .u64 ((limb 2 (x) : Nat) : Int), .int .u64 ((limb 3 (x) : Nat) : Int)]) rfl rfl (fun w hSw => by (have x0x := ((hSw).cell (p := ⟨ab, ao + j * 4, none⟩) lab).trans x0; have x1x := ((hSw).cell (p := ⟨ab, ao + j * 4 + 1, none⟩) lab).trans x1; have x2x := ((hSw).cell (p := ⟨ab, ao + j * 4 + 2, none⟩) lab).trans x2; have x3x := ((hSw).cell (p := ⟨ab, ao + j * 4 + 3, none⟩) lab).trans x3); clear hSw; go_simp) hp0 ?_
            simp only [Act.put, List.setIfInBounds_toArray]
            (try dsimp only [List.set_cons_zero, List.set_cons_succ])
            refine zt 7 106 (.slice (some ⟨ab, ao, none⟩) i ca) rfl rfl (fun w hSw => by go_simp) hp0 ?_
            simp only [Act.put, List.setIfInBounds_toArray]
            (try dsimp only [List.set_cons_zero, List.set_cons_succ])
            refine zt 8 107 (.int .i64 (j : Int)) rfl rfl (fun w hSw => by go_simp) hp0 ?_
            simp only [Act.put, List.setIfInBounds_toArray]
            (try dsimp only [List.set_cons_zero, List.set_cons_succ])
            refine zt 9 108 (.int .i64 (k : Int)) rfl rfl (fun w hSw => by go_simp) hp0 ?_
            simp only [Act.put, List.setIfInBounds_toArray]
            (try dsimp only [List.set_cons_zero, List.set_cons_succ])
            refine zt 10 109 (.pointer (some ⟨ab, ao + k * 4, none⟩)) rfl rfl (fun w hSw => by go_simp) hp0 ?_
            simp only [Act.put, List.setIfInBounds_toArray]
            (try dsimp only [List.set_cons_zero, List.set_cons_succ])
            refine zt 11 110 (.agg #[.int .u64 ((limb 0 (x) : Nat) : Int), .int .u64 ((limb 1 (x) : Nat) : Int), .int .u64 ((limb 2 (x) : Nat) : Int), .int .u64 ((limb 3 (x) : Nat) : Int)]) rfl rfl (fun w hSw => by (have y0x := ((hSw).cell (p := ⟨ab, ao + k * 4, none⟩) lab).trans y0; have y1x := ((hSw).cell (p := ⟨ab, ao + k * 4 + 1, none⟩) lab).trans y1; have y2x := ((hSw).cell (p := ⟨ab, ao + k * 4 + 2, none⟩) lab).trans y2; have y3x := ((hSw).cell (p := ⟨ab, ao + k * 4 + 3, none⟩) lab).trans y3); clear hSw; go_simp) hp0 ?_
            simp only [Act.put, List.setIfInBounds_toArray]
            (try dsimp only [List.set_cons_zero, List.set_cons_succ])
            refine zt 12 111 (.bool true) rfl rfl (fun w hSw => by have hq := HQ.out w; clear hSw; go_simp) hp0 ?_
            simp only [Act.put, List.setIfInBounds_toArray]
            (try dsimp only [List.set_cons_zero, List.set_cons_succ])
            refine zt 13 112 (.bool true) rfl rfl (fun w hSw => by go_simp) hp0 ?_
            simp only [Act.put, List.setIfInBounds_toArray]
            (try dsimp only [List.set_cons_zero, List.set_cons_succ])
            refine wpZ_done (by kernel_rfl) ?_ _
            have hbx : Below wr.heap.size wr wD := hp0
            obtain ⟨wq, ewq⟩ : ∃ z, z = wD := ⟨_, rfl⟩
            rw [← ewq] at hbx ⊢
            clear ewq hp0
            have ownq := own.below hbx
            have hbeq := hbe.trans (hbx.mono lBwr)
            have lBwq : B ≤ wq.heap.size := Nat.le_trans lBwr hbx.size
            have u0 := (hbx.cell (p := ⟨lb, lo + q * 4, none⟩) lbw).trans z0; have u1 := (hbx.cell (p := ⟨lb, lo + q * 4 + 1, none⟩) lbw).trans z1; have u2 := (hbx.cell (p := ⟨lb, lo + q * 4 + 2, none⟩) lbw).trans z2; have u3 := (hbx.cell (p := ⟨lb, lo + q * 4 + 3, none⟩) lbw).trans z3
            clear hbx own hbe lBwr x0 x1 x2 x3 y0 y1 y2 y3 z0 z1 z2 z3 lab lbw HQ
            go_wp2_with (first
              | (at_builtin; refine wpList_append_own _ rfl _ _ 25 rfl B 24 i0 (.agg #[.int .u64 0, .int .u64 0, .int .u64 0, .int .u64 0]) 4 32 Tryd.underlying25 HI.out HZ.out.1 HZ.out.2.1 HZ.out.2.2 rfl (by decide) _ _ _ rfl (ownq.alloc _) ⟨wq.heap.size, 0, none⟩ 1 1 [.int .u64 ((limb 0 z : Nat) : Int), .int .u64 ((limb 1 z : Nat) : Int), .int .u64 ((limb 2 z : Nat) : Int), .int .u64 ((limb 3 z : Nat) : Int)] rfl rfl ?c1 ?c2 ?c3 ?c4 ?c5 ?_)
              | go_in)
            try
              case c1 =>
                intro j u hj
                match j, hj with
                | 0, hj => simp at hj; subst hj; simp [Addr.add]
                | 1, hj => simp at hj; subst hj; simp [Addr.add]
                | 2, hj => simp at hj; subst hj; simp [Addr.add]
                | 3, hj => simp at hj; subst hj; simp [Addr.add]
                | j + 4, hj => simp at hj
            case c2 => first | exact ⟨rfl, rfl, rfl, rfl⟩ | (intro u hu; simp at hu; rcases hu with rfl | rfl | rfl | rfl <;> rfl)
            case c3 => unfold maxLen; omega
            case c4 => omega
            case c5 => first | omega | (simp; omega)
            intro v6 w6 own6' hgr6 _
            have own6 := OwnL.push own6'
            have hbg6 : Below B wq w6 := ((Below.refl _ wq).alloc lBwq _).grown hgr6 (by simp; omega) (fun j hj => own_block_geE ownq hj)
            have lBw6 : B ≤ w6.heap.size := Nat.le_trans lBwq hbg6.size
            clear own6' hgr6
            have hb6 : Below B we w6 := hbeq.trans hbg6
            rw [← HN.out] at own6
            clear ownq hbeq hbg6 u0 u1 u2 u3
            go_wp2
            go_roundw
            case measure => simp [intOf]; omega
            case rel => exact ⟨j + 1, q + 1, by go_num, by go_num, by omega, HQN, own6, hb6, lBw6⟩
        · have hjii : ¬ (j : Int) < (i : Int) := by omega
          obtain rfl : j = i := by omega
          have hE := own.es
          rw [fl_len] at hE
          have hEb := Es.congr hE (g := mtF a l) (fun t ht => (fl_get ht).symm)
          have hEa := HA2.out.below (hb.trans (hbe.mono l2B))
          have hbf : Below w.heap.size w wr := hbw2.trans ((hb.trans (hbe.mono l2B)).mono hbw2.size)
          have HR := HE2.out wr l _ _ HWL.out.1 hEa hEb
          clear own hE hEb hEa hbe
          go_wp2
          refine bodyPost_ret (v := .tuple #[.slice oA j ca, _, .int .i64 0]) (by simp [results, Tryd.results12, go_sem]) rfl ⟨HR, hbf⟩
end Go.Proofs.YtobeeoelfmfpdaaDoor
