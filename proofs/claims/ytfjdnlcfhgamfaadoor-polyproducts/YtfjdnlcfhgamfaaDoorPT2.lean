/- The reference of layer 7: Over, Divide. -/
import Derived.Test.YtfjdnlcfhgamfaaDoorPT1
import Derived.Test.YtfjdnlcfhgamfaaDoorPD1
import Derived.Test.YtfjdnlcfhgamfaaDoorPR3
import Derived.Test.YtfjdnlcfhgamfaaDoorL4
namespace Go.Proofs.YtfjdnlcfhgamfaaDoor
open Go.RowKit

/-- Block b holds n elements at least, the first n being f's. -/
def BlkP (w : World) (b n : Nat) (f : Nat → Nat) : Prop :=
  ∃ c : Array Value, w.heap[b]? = some (.cells c 25) ∧ n * 4 ≤ c.size ∧ ∀ i, i < n → ∀ j, j < 4 → c[i * 4 + j]? = some (.int .u64 ((limb j (f i) : Nat) : Int))
section
variable {w w' : World} {b n g : Nat} {f h : Nat → Nat}
theorem BlkP.lt (h : BlkP w b n f) : b < w.heap.size := by
  obtain ⟨c, hc, _⟩ := h
  exact (Array.getElem?_eq_some_iff.1 hc).1
theorem BlkP.cell (h : BlkP w b n f) : ∀ i, i < n → ∀ j, j < 4 → w.cell? ⟨b, i * 4 + j, none⟩ = some (.int .u64 ((limb j (f i) : Nat) : Int)) := by
  obtain ⟨c, hc, hs, hf⟩ := h
  intro i hi j hj
  simp [World.cell?, hc, hf i hi j hj]
theorem BlkP.frozen (h : BlkP w b n f) : ∀ o, w.frozen? ⟨b, o, none⟩ = false := by
  obtain ⟨c, hc, _⟩ := h
  intro o
  simp [World.frozen?, hc]
theorem BlkP.belowAll (h : BlkP w b n f) (hb : Below w.heap.size w w') : BlkP w' b n f := by
  have hl := h.lt
  obtain ⟨c, hc, hs⟩ := h
  exact ⟨c, by rw [hb.block b hl]; exact hc, hs⟩
theorem BlkP.kept (h : BlkP w b n f) (hne : b ≠ g) (hk : Kept g w w') : BlkP w' b n f := by
  have hl := h.lt
  obtain ⟨c, hc, hs⟩ := h
  exact ⟨c, by rw [hk.block b hl hne]; exact hc, hs⟩
theorem BlkP.congr {f2 : Nat → Nat} (h : BlkP w b n f) (hg : ∀ i, i < n → f2 i = f i) : BlkP w b n f2 := by
  obtain ⟨c, hc, hs, hf⟩ := h
  exact ⟨c, hc, hs, fun i hi j hj => by rw [hf i hi j hj, hg i hi]⟩
theorem BlkP.Es (h : BlkP w b n f) {cap : Nat} (hn : n ≤ cap) (hm : cap ≤ maxLen) : Go.Proofs.YtfjdnlcfhgamfaaDoor.Es w (.slice (some ⟨b, 0, none⟩) n cap) n f :=
  Or.inr ⟨b, 0, cap, rfl, hn, hm, h.lt, fun i hi j hj => by rw [Nat.zero_add]; exact h.cell i hi j hj⟩
theorem BlkP.put {k : Nat} (h : BlkP w b n f) (hk : k < n) (x : Nat) : ∃ w', ((((w.setCell ⟨b, k * 4, none⟩ (.int .u64 ((limb 0 x : Nat) : Int))).setCell ⟨b, k * 4 + 1, none⟩ (.int .u64 ((limb 1 x : Nat) : Int))).setCell ⟨b, k * 4 + 2, none⟩ (.int .u64 ((limb 2 x : Nat) : Int))).setCell ⟨b, k * 4 + 3, none⟩ (.int .u64 ((limb 3 x : Nat) : Int))) = w' ∧ BlkP w' b n (fun i => if i = k then x else f i) ∧ Kept b w w' := by
  refine ⟨_, rfl, ?_, ((((Kept.refl b w).setCell _ _).setCell _ _).setCell _ _).setCell _ _⟩
  obtain ⟨c, hc, hs, hf⟩ := h
  refine ⟨(((c.setIfInBounds (k * 4) (.int .u64 ((limb 0 x : Nat) : Int))).setIfInBounds (k * 4 + 1) (.int .u64 ((limb 1 x : Nat) : Int))).setIfInBounds (k * 4 + 2) (.int .u64 ((limb 2 x : Nat) : Int))).setIfInBounds (k * 4 + 3) (.int .u64 ((limb 3 x : Nat) : Int)), ?_, by simp [hs], ?_⟩
  · simp [World.setCell, Array.getElem?_modify, hc]
  · intro i hi j hj
    have hlt : i * 4 + j < c.size := by omega
    dsimp only
    by_cases e : i = k
    · subst e
      rw [if_pos rfl]
      have hj4 : j = 0 ∨ j = 1 ∨ j = 2 ∨ j = 3 := by omega
      rcases hj4 with rfl | rfl | rfl | rfl
      all_goals simp [Array.getElem?_setIfInBounds]
      all_goals omega
    · rw [if_neg e, ← hf i hi j hj]
      rw [Array.getElem?_setIfInBounds_ne (by omega), Array.getElem?_setIfInBounds_ne (by omega), Array.getElem?_setIfInBounds_ne (by omega), Array.getElem?_setIfInBounds_ne (by omega)]
end
theorem four_ofP {w : World} {b n i y : Nat} {f : Nat → Nat} (h : BlkP w b n f) (hi : i < n) (e : f i = y) : w.cell? ⟨b, i * 4, none⟩ = some (.int .u64 ((limb 0 y : Nat) : Int)) ∧ w.cell? ⟨b, i * 4 + 1, none⟩ = some (.int .u64 ((limb 1 y : Nat) : Int)) ∧ w.cell? ⟨b, i * 4 + 2, none⟩ = some (.int .u64 ((limb 2 y : Nat) : Int)) ∧ w.cell? ⟨b, i * 4 + 3, none⟩ = some (.int .u64 ((limb 3 y : Nat) : Int)) := by
  have q := h.cell i hi
  have q0 := q 0 (by decide); have q1 := q 1 (by decide); have q2 := q 2 (by decide); have q3 := q 3 (by decide)
  rw [e] at q0 q1 q2 q3
  rw [Nat.add_zero] at q0
  exact ⟨q0, q1, q2, q3⟩
theorem own_P {w : World} {base n : Nat} {v : Value} {f : Nat → Nat} (h : w.ownsRow base 25 4 v n (els f n)) (h0 : 0 < n) : ∃ g c, v = .slice (some ⟨g, 0, none⟩) n c ∧ n ≤ c ∧ c ≤ maxLen ∧ base ≤ g ∧ BlkP w g n f := by
  obtain ⟨_, h⟩ := h
  rcases h with ⟨rfl, h1⟩ | ⟨g, c, cur, rfl, hb, hg, hc, hm, hs, ht⟩
  · omega
  · refine ⟨g, c, rfl, hc, hm, hb, cur, hg, by omega, fun i hi j hj => ?_⟩
    have h1 : cur[i * 4 + j]? = (els f n)[i * 4 + j]? := by rw [← ht, List.getElem?_take_of_lt (by omega), Array.getElem?_toList]
    rw [els_get f n i j hi hj] at h1
    exact h1
theorem sub_add_neg (s a q b : Nat) : subP s a (mulP s q b) = addP s a (mulP s (subP s 0 q) b) := by
  refine fz_inj (c := s) (subP_lt _ _ _) (addP_lt _ _ _) ?_
  rw [fz_sub, fz_mul, fz_add, fz_mul, fz_sub, fz_zero]
  grind
/-- The quotient, and noughts behind it. -/
def dqz (s : Nat) (f g : Nat → Nat) (k sh Q i : Nat) : Nat := if i < Q then dqt s f g k sh Q i else 0
theorem dqz_M {s : Nat} {f g : Nat → Nat} {k sh Q i : Nat} : dqz s f g k sh Q i < 115792089237316195423570985008687907853269984665640564039457584007913129639936 := by unfold dqz; split; exact mulP_M _ _ _; exact M_pos
/-- append of a whole list to a new one. -/
theorem wpList_app_all {ops : Array Oper} {rest : List Oper} {o : Oper} {a : Act} {Q : Exit → Act → World → Prop} (w0 : World) (hgd : o.guard = none) (s x : Operand) (ho : o.op = .call { callee := .builtin .append, args := #[s, x], argTypes := #[22, 22] }) (n cn : Nat) (oa : Option Addr) (f : Nat → Nat) (hn : n ≤ 100000) (hs : a.eval s = .slice (some ⟨w0.heap.size, 0, none⟩) 0 0) (hx : a.eval x = .slice oa n cn) (hv : Es w0 (.slice oa n cn) n f)
    (h : ∀ v' w', w'.ownsRow w0.heap.size 25 4 v' n (els f n) → Below w0.heap.size w0 w' → wpList Tryd.prog ops Q rest (a.put o.dst v') w') : wpList Tryd.prog ops Q (o :: rest) a (w0.alloc (.cells #[] 25)) := by
  obtain ⟨i0, hi, hz0, hz1, hz2⟩ := elemInfo
  have hb : Below w0.heap.size w0 (w0.alloc (.cells #[] 25)) := bAlloc (Below.refl _ _) _
  rcases hv.take with ⟨rfl, rfl, rfl⟩ | ⟨b, o2, rfl, h1, h2, h3, h4⟩
  · refine wpList_append_own_none hgd _ _ 22 ho w0.heap.size 25 i0 4 Tryd.underlying22 hi _ _ _ hs (own_newE w0) hx ?_
    exact h _ _ (own_newE w0) hb
  · refine wpList_append_own _ hgd _ _ 22 ho w0.heap.size 25 i0 (.agg #[.int .u64 0, .int .u64 0, .int .u64 0, .int .u64 0]) 4 32 Tryd.underlying22 hi hz0 hz1 hz2 rfl (by decide) _ _ _ hs (own_newE w0) ⟨b, o2, none⟩ n cn (els f n) hx (els_len f n) (fun j u hj => ?_) (els_one f n) (by unfold maxLen; omega) (by omega) hb.size ?_
    · obtain ⟨q1, q2, rfl⟩ := els_at f n j u hj
      have hadd : (⟨b, o2, none⟩ : Addr).add j = ⟨b, o2 + j / 4 * 4 + j % 4, none⟩ := by
        have e2 : o2 + j / 4 * 4 + j % 4 = o2 + j := by omega
        rw [e2]; unfold Addr.add; split <;> simp_all
      rw [hadd, hb.cell (p := ⟨b, o2 + j / 4 * 4 + j % 4, none⟩) h3]
      exact h4 (j / 4) q1 (j % 4) q2
    · intro v' w' hown hgrow _
      rw [List.nil_append, Nat.zero_add] at hown
      exact h v' w' hown (hb.grown hgrow hb.size (fun j hj => own_block_geE (own_newE w0) hj))
set_option maxHeartbeats 16000000 in
set_option maxRecDepth 40000 in
theorem rOver_in (s n cn m cm : Nat) (oa ob : Option Addr) (f g : Nat → Nat) (hs : s < 4) (hn : n ≤ 20000) (hm : m ≤ 20000) (hf : ∀ i, i < n → f i < 115792089237316195423570985008687907853269984665640564039457584007913129639936) (hgm : ∀ i, i < m → g i < 115792089237316195423570985008687907853269984665640564039457584007913129639936) (w : World) (hv : Es w (.slice oa n cn) n f) (hu : Es w (.slice ob m cm) m g) (hz : (szE (fun a => addP s a 0) g m) ≠ 0) (hd : (szE (fun a => addP s a 0) f n) ≤ 1024) : Calls Tryd.prog 46 #[.int .i64 (s : Int), .slice oa n cn, .slice ob m cm] w fun e w' => (∃ v u, e = .returned (.tuple #[v, u]) ∧ Es w' v (szE (fun a => addP s a 0) (dqz s (fun i => addP s (f i) 0) (fun i => addP s (g i) 0) (szE (fun a => addP s a 0) g m) (invU (modN s) (addP s (g ((szE (fun a => addP s a 0) g m) - 1)) 0)) ((szE (fun a => addP s a 0) f n) + 1 - (szE (fun a => addP s a 0) g m))) (szE (fun a => addP s a 0) f n)) (fun i => addP s (dqz s (fun i => addP s (f i) 0) (fun i => addP s (g i) 0) (szE (fun a => addP s a 0) g m) (invU (modN s) (addP s (g ((szE (fun a => addP s a 0) g m) - 1)) 0)) ((szE (fun a => addP s a 0) f n) + 1 - (szE (fun a => addP s a 0) g m)) i) 0) ∧ Es w' u (szE (fun a => addP s a 0) (drs s (fun i => addP s (f i) 0) (fun i => addP s (g i) 0) (szE (fun a => addP s a 0) g m) (invU (modN s) (addP s (g ((szE (fun a => addP s a 0) g m) - 1)) 0)) ((szE (fun a => addP s a 0) f n) + 1 - (szE (fun a => addP s a 0) g m)) ((szE (fun a => addP s a 0) f n) + 1 - (szE (fun a => addP s a 0) g m))) (szE (fun a => addP s a 0) f n)) (fun i => addP s (drs s (fun i => addP s (f i) 0) (fun i => addP s (g i) 0) (szE (fun a => addP s a 0) g m) (invU (modN s) (addP s (g ((szE (fun a => addP s a 0) g m) - 1)) 0)) ((szE (fun a => addP s a 0) f n) + 1 - (szE (fun a => addP s a 0) g m)) ((szE (fun a => addP s a 0) f n) + 1 - (szE (fun a => addP s a 0) g m)) i) 0)) ∧ Below w.heap.size w w' := by
  obtain ⟨i0, hi, hz0, hz1, hz2⟩ := elemInfo
  have HI := (show Hid _ from hi); have HZ := (show Hid _ from And.intro hz0 (And.intro hz1 hz2)); clear hi hz0 hz1 hz2
  have hlast : addP s (g ((szE (fun a => addP s a 0) g m) - 1)) 0 ≠ 0 := szE_last (el := (fun a => addP s a 0)) hz
  have HT1 := rTrim_any (rfl_in s hs) oa n cn f (by omega) hf
  have HT2 := rTrim_any (rfl_in s hs) ob m cm g (by omega) hgm
  have k1 := szE_le (fun a => addP s a 0) f n
  have k2 := szE_le (fun a => addP s a 0) g m
  obtain ⟨A, eA⟩ : ∃ k, k = (szE (fun a => addP s a 0) f n) := ⟨_, rfl⟩
  obtain ⟨B, eB⟩ : ∃ k, k = (szE (fun a => addP s a 0) g m) := ⟨_, rfl⟩
  rw [← eA] at HT1 k1 hd ⊢
  rw [← eB] at HT2 k2 hz hlast ⊢
  have hIV := fun w => rInv_some s (addP s (g (B - 1)) 0) hs (addP_M _ _ _) (by rw [Nat.mod_eq_of_lt (addP_lt _ _ _)]; exact hlast) w
  have hshM : invU (modN s) (addP s (g (B - 1)) 0) < modN s := invU_lt _ _ (modN_pos s)
  obtain ⟨sh, esh⟩ : ∃ x, x = invU (modN s) (addP s (g (B - 1)) 0) := ⟨_, rfl⟩
  rw [← esh] at hIV hshM ⊢
  obtain ⟨Q, eQ⟩ : ∃ Q, Q = A + 1 - B := ⟨_, rfl⟩
  rw [← eQ]
  have HQ : Hid (Q = A + 1 - B) := eQ
  obtain ⟨t, et⟩ : ∃ t, t = B - 1 := ⟨_, rfl⟩
  have ht1 : (B : Int) - 1 = (t : Int) := by omega
  have htB : (t : Int) < (B : Int) := by omega
  have htb : t < B := by omega
  rw [← et] at hIV
  have HTQ : Hid (∀ oc c w, Es w (.slice oc A c) A (dqz s (fun i => addP s (f i) 0) (fun i => addP s (g i) 0) B sh Q) → _) := fun oc c w h => rTrim_any (rfl_in s hs) oc A c (dqz s (fun i => addP s (f i) 0) (fun i => addP s (g i) 0) B sh Q) (by omega) (fun i _ => dqz_M) w h
  have HTR : Hid (∀ oc c w, Es w (.slice oc A c) A (drs s (fun i => addP s (f i) 0) (fun i => addP s (g i) 0) B sh Q Q) → _) := fun oc c w h => rTrim_any (rfl_in s hs) oc A c (drs s (fun i => addP s (f i) 0) (fun i => addP s (g i) 0) B sh Q Q) (by omega) (fun i hi => drs_M (N := A) (fun _ _ => addP_M _ _ _) Q i hi) w h
  have HMUL : Hid (∀ a b, a < 115792089237316195423570985008687907853269984665640564039457584007913129639936 → b < 115792089237316195423570985008687907853269984665640564039457584007913129639936 → ∀ w, Calls Tryd.prog 38 #[.int .i64 (s : Int), .agg #[.int .u64 ((limb 0 (a) : Nat) : Int), .int .u64 ((limb 1 (a) : Nat) : Int), .int .u64 ((limb 2 (a) : Nat) : Int), .int .u64 ((limb 3 (a) : Nat) : Int)], .agg #[.int .u64 ((limb 0 (b) : Nat) : Int), .int .u64 ((limb 1 (b) : Nat) : Int), .int .u64 ((limb 2 (b) : Nat) : Int), .int .u64 ((limb 3 (b) : Nat) : Int)]] w fun e w' => e = .returned (.agg #[.int .u64 ((limb 0 (mulP s a b) : Nat) : Int), .int .u64 ((limb 1 (mulP s a b) : Nat) : Int), .int .u64 ((limb 2 (mulP s a b) : Nat) : Int), .int .u64 ((limb 3 (mulP s a b) : Nat) : Int)]) ∧ Below w.heap.size w w') := fun a b ha hb w => ref2Mul_any s a b hs ha hb w
  have HSUB : Hid (∀ a b, a < 115792089237316195423570985008687907853269984665640564039457584007913129639936 → b < 115792089237316195423570985008687907853269984665640564039457584007913129639936 → ∀ w, Calls Tryd.prog 51 #[.int .i64 (s : Int), .agg #[.int .u64 ((limb 0 (a) : Nat) : Int), .int .u64 ((limb 1 (a) : Nat) : Int), .int .u64 ((limb 2 (a) : Nat) : Int), .int .u64 ((limb 3 (a) : Nat) : Int)], .agg #[.int .u64 ((limb 0 (b) : Nat) : Int), .int .u64 ((limb 1 (b) : Nat) : Int), .int .u64 ((limb 2 (b) : Nat) : Int), .int .u64 ((limb 3 (b) : Nat) : Int)]] w fun e w' => e = .returned (.agg #[.int .u64 ((limb 0 (subP s a b) : Nat) : Int), .int .u64 ((limb 1 (subP s a b) : Nat) : Int), .int .u64 ((limb 2 (subP s a b) : Nat) : Int), .int .u64 ((limb 3 (subP s a b) : Nat) : Int)]) ∧ Below w.heap.size w w') := fun a b ha hb w => ref2Sub_any s a b hs ha hb w
  have HTA : Hid (∀ w, Es w (.slice oa n cn) n f → _) := HT1
  have HTB : Hid (∀ w, Es w (.slice ob m cm) m g → _) := HT2
  have HSM : Hid (sh < modN s) := hshM
  have HTK : Hid (t = B - 1) := et
  have HV : Hid (Es w (.slice oa n cn) n f) := hv
  have HU : Hid (Es w (.slice ob m cm) m g) := hu
  obtain ⟨lb, elb⟩ : ∃ x, x = addP s (g t) 0 := ⟨_, rfl⟩
  rw [← elb] at hIV
  have HIV : Hid (∀ w, Calls Tryd.prog 66 #[.int .i64 (s : Int), .agg #[.int .u64 ((limb 0 (lb) : Nat) : Int), .int .u64 ((limb 1 (lb) : Nat) : Int), .int .u64 ((limb 2 (lb) : Nat) : Int), .int .u64 ((limb 3 (lb) : Nat) : Int)]] w fun e w' => e = .returned (.tuple #[.agg #[.int .u64 ((limb 0 (sh) : Nat) : Int), .int .u64 ((limb 1 (sh) : Nat) : Int), .int .u64 ((limb 2 (sh) : Nat) : Int), .int .u64 ((limb 3 (sh) : Nat) : Int)], .int .i64 0]) ∧ Below w.heap.size w w') := hIV
  have HLB : Hid (lb = addP s (g t) 0) := elb
  have hQb : Q ≤ 1024 := by omega
  clear hf hgm hv hu HT1 HT2 eA eB hs hlast esh eQ et hIV elb hshM
  go_enter Tryd.func46, Tryd.ntmps46
  go_wp2_with fail
  refine (HTA.out w HV.out).mono ?_
  rintro e w1 ⟨⟨oc, c, rfl, hE⟩, hb1⟩
  have HEA1 : Hid (Es w1 (.slice oc A c) A (fun i => addP s (f i) 0)) := hE
  clear hE
  go_wp2_with fail
  refine (HTB.out w1 (HU.out.below hb1)).mono ?_
  rintro e w2 ⟨⟨od, d, rfl, hE⟩, hb2⟩
  have HEB2 : Hid (Es w2 (.slice od B d) B (fun i => addP s (g i) 0)) := hE
  have HEA2 : Hid (Es w2 (.slice oc A c) A (fun i => addP s (f i) 0)) := HEA1.out.below hb2
  have hbw2 := bStep hb1 hb2
  clear hE hb1 hb2 HEA1 HTA HTB HV HU
  go_wp2_with (first
    | (at_builtin; refine wpList_app_all w2 rfl _ _ rfl A c oc (fun i => addP s (f i) 0) (by omega) rfl rfl HEA2.out ?_)
    | go_in)
  intro v8 w3 hown3 hb3
  rcases HEB2.out.take with ⟨_, h0, _⟩ | ⟨zb, zo, rfl, _, _, zl, zc⟩
  · omega
  have HEB : Hid (Es w2 (.slice (some ⟨zb, zo, none⟩) B d) B (fun i => addP s (g i) 0)) := HEB2.out
  have c0 := (hb3.cell (p := ⟨zb, zo + t * 4 + 0, none⟩) zl).trans (zc t htb 0 (by decide)); have c1 := (hb3.cell (p := ⟨zb, zo + t * 4 + 1, none⟩) zl).trans (zc t htb 1 (by decide)); have c2 := (hb3.cell (p := ⟨zb, zo + t * 4 + 2, none⟩) zl).trans (zc t htb 2 (by decide)); have c3 := (hb3.cell (p := ⟨zb, zo + t * 4 + 3, none⟩) zl).trans (zc t htb 3 (by decide))
  rw [← HLB.out] at c0 c1 c2 c3
  rw [Nat.add_zero] at c0
  clear zc zl HEB2 HEA2
  go_wp2_with fail
  refine (HIV.out w3).mono ?_
  rintro e w4 ⟨rfl, hb4⟩
  clear c0 c1 c2 c3 HIV HLB
  obtain ⟨w5, hw5⟩ : ∃ z : World, z = w4.alloc (.cells #[.int .u64 ((limb 0 (sh) : Nat) : Int), .int .u64 ((limb 1 (sh) : Nat) : Int), .int .u64 ((limb 2 (sh) : Nat) : Int), .int .u64 ((limb 3 (sh) : Nat) : Int)] 25) := ⟨_, rfl⟩
  obtain ⟨N9, e9⟩ : ∃ z, z = w4.heap.size := ⟨_, rfl⟩
  have hb5 : Below w3.heap.size w3 w5 := by rw [hw5]; exact bAlloc hb4 _
  have b95 : Blk w5 25 N9 (fun i => limb i sh) := by rw [hw5]; exact Blk.newAt _ _ _ (fun i => limb i sh) e9
  have l39 : w3.heap.size ≤ N9 := by rw [e9]; exact hb4.size
  have hown5 := own_keepE (w' := w5) hown3 (fun b hb => hb5.block b (own_ltE hown3 b hb).2)
  have HL3 : Hid (∀ b, v8.ownBlock = some b → b < N9) := fun b hb => Nat.lt_of_lt_of_le (own_ltE hown3 b hb).2 l39
  have hx5 := bStep hb3 hb5
  have l29 : w2.heap.size ≤ N9 := Nat.le_trans hb3.size l39
  go_upto_region 6 with fail
  rw [← hw5, ← e9]
  clear hw5 e9 hb4 hb5 hown3 hb3 l39
  go_wp2_with (first
    | (at_make; refine wpList_make_full _ rfl _ _ 22 rfl w5.heap.size 25 i0 (.agg #[.int .u64 0, .int .u64 0, .int .u64 0, .int .u64 0]) 4 Tryd.underlying22 HI.out HZ.out.1 HZ.out.2.1 .i64 .i64 A A A rfl rfl rfl rfl ?c1 ?c2 (Nat.le_refl _) ?_)
    | go_in)
  case c1 => rw [HZ.out.2.2]; omega
  case c2 => unfold maxLen; omega
  intro w6 hown hgrow
  obtain ⟨Gq, eG⟩ : ∃ G, G = w5.heap.size := ⟨_, rfl⟩
  rw [← eG] at hown ⊢
  have bq6 : BlkE w6 Gq A (fun _ => 0) := (own_blkE (f := fun _ => 0) hown (fun i hi j hj => by rw [made_zero A (i * 4 + j) (by omega), limb_zero]; rfl)).1
  have hbe : Below w5.heap.size w5 w6 := (Below.refl _ w5).grown hgrow (Nat.le_refl _) (fun j hj => by cases hj)
  have b96 := b95.belowAll hbe
  have l9q : N9 < Gq := by rw [eG]; exact b95.lt
  have lq : w2.heap.size ≤ Gq := by omega
  have hown6 := own_keepE (w' := w6) hown5 (fun b hb => hbe.block b (own_ltE hown5 b hb).2)
  have hx6 := bStep hx5 hbe
  clear hown hgrow hbe hown5 b95 hx5 eG
  by_cases hAB : B ≤ A
  · obtain ⟨g8, c8, rfl, hc8, hm8, l8, bp6⟩ := own_P hown6 (by omega)
    have l89 : g8 < N9 := HL3.out g8 rfl
    clear hown6 HL3
    have hQi : (A : Int) - (B : Int) = (Q : Int) - 1 := by have := HQ.out; omega
    go_wp2
    go_loopw [12] (fun iv wr => ∃ k : Nat, k ≤ Q ∧ iv = .int .i64 ((k : Int) - 1) ∧ Below w2.heap.size w2 wr ∧ Blk wr 25 N9 (fun i => limb i sh) ∧ BlkE wr Gq A (fun j => if k ≤ j ∧ j < Q then dqt s (fun i => addP s (f i) 0) (fun i => addP s (g i) 0) B sh Q j else 0) ∧ BlkP wr g8 A (drs s (fun i => addP s (f i) 0) (fun i => addP s (g i) 0) B sh Q (Q - k))) (fun iv _ => (intOf iv + 1).toNat)
    case atStart => exact ⟨Q, Nat.le_refl _, rfl, hx6, b96, bq6.congr (fun j _ => by rw [if_neg (by omega)]), by rw [Nat.sub_self]; exact bp6⟩
    case round =>
      obtain ⟨k, hk, rfl, hbr, b9, bq, bo⟩ := hrel
      clear hx6 b96 bq6 bp6
      by_cases hlt : 0 < k
      · obtain ⟨i, rfl⟩ : ∃ i, k = i + 1 := ⟨k - 1, by omega⟩
        have hdi : ((i + 1 : Nat) : Int) - 1 = (i : Int) := by omega
        rw [hdi]
        have hi0 : (0 : Int) ≤ (i : Int) := by omega
        have hiA : i < A := by have := HQ.out; omega
        have hiAi : (i : Int) < (A : Int) := by omega
        obtain ⟨r, er⟩ : ∃ r, r = i + B := ⟨_, rfl⟩
        have hri : (i : Int) + (B : Int) = (r : Int) := by omega
        obtain ⟨p, ep⟩ : ∃ p, p = i + t := ⟨_, rfl⟩
        have hrp : (r : Int) - 1 = (p : Int) := by have := HTK.out; omega
        have hpA : p < A := by have := HQ.out; have := HTK.out; omega
        have hpAi : (p : Int) < (A : Int) := by omega
        have HWR : Hid (IntKind.i64.wrap (r : Int) = (r : Int)) := wrap_i64_nat r (by omega)
        have HWP : Hid (IntKind.i64.wrap (p : Int) = (p : Int)) := wrap_i64_nat p (by omega)
        obtain ⟨x, ex⟩ : ∃ x, x = drs s (fun i => addP s (f i) 0) (fun i => addP s (g i) 0) B sh Q (Q - (i + 1)) p := ⟨_, rfl⟩
        have HXC : Hid (∀ w', Below wr.heap.size wr w' → w'.cell? ⟨g8, p * 4, none⟩ = some (.int .u64 ((limb 0 x : Nat) : Int)) ∧ w'.cell? ⟨g8, p * 4 + 1, none⟩ = some (.int .u64 ((limb 1 x : Nat) : Int)) ∧ w'.cell? ⟨g8, p * 4 + 2, none⟩ = some (.int .u64 ((limb 2 x : Nat) : Int)) ∧ w'.cell? ⟨g8, p * 4 + 3, none⟩ = some (.int .u64 ((limb 3 x : Nat) : Int))) := fun w' hb => four_ofP (bo.belowAll hb) hpA ex.symm
        have hM := HMUL.out x sh (by rw [ex]; exact drs_M (N := A) (fun _ _ => addP_M _ _ _) _ _ hpA) (lt_M s _ HSM.out)
        obtain ⟨y, ey⟩ : ∃ y, y = mulP s x sh := ⟨_, rfl⟩
        rw [← ey] at hM
        have HMU : Hid (∀ w, Calls Tryd.prog 38 #[.int .i64 (s : Int), .agg #[.int .u64 ((limb 0 (x) : Nat) : Int), .int .u64 ((limb 1 (x) : Nat) : Int), .int .u64 ((limb 2 (x) : Nat) : Int), .int .u64 ((limb 3 (x) : Nat) : Int)], .agg #[.int .u64 ((limb 0 (sh) : Nat) : Int), .int .u64 ((limb 1 (sh) : Nat) : Int), .int .u64 ((limb 2 (sh) : Nat) : Int), .int .u64 ((limb 3 (sh) : Nat) : Int)]] w fun e w' => e = .returned (.agg #[.int .u64 ((limb 0 (y) : Nat) : Int), .int .u64 ((limb 1 (y) : Nat) : Int), .int .u64 ((limb 2 (y) : Nat) : Int), .int .u64 ((limb 3 (y) : Nat) : Int)]) ∧ Below w.heap.size w w') := hM
        have HY : Hid (y = dqt s (fun i => addP s (f i) 0) (fun i => addP s (g i) 0) B sh Q i) := by show y = dqt s (fun i => addP s (f i) 0) (fun i => addP s (g i) 0) B sh Q i; unfold dqt; rw [ey, ex, ep, HTK.out]
        clear ey ex ep er hM hdi
        go_upto_region 10 with fail
        refine wp_region_Z (fun w' => Below wr.heap.size wr w') 14 (by kernel_rfl) ?_
        obtain ⟨wD, hD⟩ : ∃ x : World, x = wr.drew := ⟨_, rfl⟩
        rw [← hD]
        have hp0_0 : Below wr.heap.size wr wD := by rw [hD]; exact (Below.refl _ _).drew
        have hlow0 : Below wr.heap.size wr wD := by rw [hD]; exact (Below.refl _ _).drew
        clear hD
        refine wpZ_take (i := 0) (v := .slice (some ⟨Gq, 0, none⟩) A A) 47 rfl rfl (by kernel_rfl) (by kernel_rfl) (by kernel_rfl) (Or.inl (by kernel_rfl)) (fun _ _ _ h => h) (Or.inl ⟨by rfl, fun w hSw => by go_simp⟩) hp0_0 ?_
        simp only [Act.put, List.setIfInBounds_toArray]
        dsimp only [List.set_cons_zero, List.set_cons_succ]
        refine wpZ_take (i := 1) (v := .int .i64 (i : Int)) 48 rfl rfl (by kernel_rfl) (by kernel_rfl) (by kernel_rfl) (Or.inl (by kernel_rfl)) (fun _ _ _ h => h) (Or.inl ⟨by rfl, fun w hSw => by go_simp⟩) hp0_0 ?_
        simp only [Act.put, List.setIfInBounds_toArray]
        dsimp only [List.set_cons_zero, List.set_cons_succ]
        refine wpZ_take (i := 2) (v := .int .i64 (s : Int)) 49 rfl rfl (by kernel_rfl) (by kernel_rfl) (by kernel_rfl) (Or.inl (by kernel_rfl)) (fun _ _ _ h => h) (Or.inl ⟨by rfl, fun w hSw => by go_simp⟩) hp0_0 ?_
        simp only [Act.put, List.setIfInBounds_toArray]
        dsimp only [List.set_cons_zero, List.set_cons_succ]
        refine wpZ_take (i := 3) (v := .slice (some ⟨g8, 0, none⟩) A c8) 50 rfl rfl (by kernel_rfl) (by kernel_rfl) (by kernel_rfl) (Or.inl (by kernel_rfl)) (fun _ _ _ h => h) (Or.inl ⟨by rfl, fun w hSw => by go_simp⟩) hp0_0 ?_
        simp only [Act.put, List.setIfInBounds_toArray]
        dsimp only [List.set_cons_zero, List.set_cons_succ]
        refine wpZ_take (i := 4) (v := .int .i64 (i : Int)) 51 rfl rfl (by kernel_rfl) (by kernel_rfl) (by kernel_rfl) (Or.inl (by kernel_rfl)) (fun _ _ _ h => h) (Or.inl ⟨by rfl, fun w hSw => by go_simp⟩) hp0_0 ?_
        simp only [Act.put, List.setIfInBounds_toArray]
        dsimp only [List.set_cons_zero, List.set_cons_succ]
        refine wpZ_take (i := 5) (v := .slice (some ⟨zb, zo, none⟩) B d) 52 rfl rfl (by kernel_rfl) (by kernel_rfl) (by kernel_rfl) (Or.inl (by kernel_rfl)) (fun _ _ _ h => h) (Or.inl ⟨by rfl, fun w hSw => by go_simp⟩) hp0_0 ?_
        simp only [Act.put, List.setIfInBounds_toArray]
        dsimp only [List.set_cons_zero, List.set_cons_succ]
        refine wpZ_take (i := 6) (v := .int .i64 (B : Int)) 53 rfl rfl (by kernel_rfl) (by kernel_rfl) (by kernel_rfl) (Or.inl (by kernel_rfl)) (fun _ _ _ h => h) (Or.inl ⟨by rfl, fun w hSw => by go_simp⟩) hp0_0 ?_
        simp only [Act.put, List.setIfInBounds_toArray]
        dsimp only [List.set_cons_zero, List.set_cons_succ]
        refine wpZ_take (i := 7) (v := .int .i64 (r : Int)) 54 rfl rfl (by kernel_rfl) (by kernel_rfl) (by kernel_rfl) (Or.inl (by kernel_rfl)) (fun _ _ _ h => h) (Or.inl ⟨by rfl, fun w hSw => by (have hwp := HWR.out; clear hSw; go_simp)⟩) hp0_0 ?_
        simp only [Act.put, List.setIfInBounds_toArray]
        dsimp only [List.set_cons_zero, List.set_cons_succ]
        refine wpZ_take (i := 8) (v := .int .i64 (p : Int)) 55 rfl rfl (by kernel_rfl) (by kernel_rfl) (by kernel_rfl) (Or.inl (by kernel_rfl)) (fun _ _ _ h => h) (Or.inl ⟨by rfl, fun w hSw => by (have hwp := HWP.out; clear hSw; go_simp)⟩) hp0_0 ?_
        simp only [Act.put, List.setIfInBounds_toArray]
        dsimp only [List.set_cons_zero, List.set_cons_succ]
        refine wpZ_take (i := 9) (v := .pointer (some ⟨g8, (p * 4), none⟩)) 56 rfl rfl (by kernel_rfl) (by kernel_rfl) (by kernel_rfl) (Or.inl (by kernel_rfl)) (fun _ _ _ h => h) (Or.inl ⟨by rfl, fun w hSw => by go_simp⟩) hp0_0 ?_
        simp only [Act.put, List.setIfInBounds_toArray]
        dsimp only [List.set_cons_zero, List.set_cons_succ]
        refine wpZ_take (i := 10) (v := .agg #[.int .u64 ((limb 0 (x) : Nat) : Int), .int .u64 ((limb 1 (x) : Nat) : Int), .int .u64 ((limb 2 (x) : Nat) : Int), .int .u64 ((limb 3 (x) : Nat) : Int)]) 57 rfl rfl (by kernel_rfl) (by kernel_rfl) (by kernel_rfl) (Or.inl (by kernel_rfl)) (fun _ _ _ h => h) (Or.inl ⟨by rfl, fun w hSw => by (obtain ⟨q0, q1, q2, q3⟩ := HXC.out w hSw; clear hSw; go_simp)⟩) hp0_0 ?_
        simp only [Act.put, List.setIfInBounds_toArray]
        dsimp only [List.set_cons_zero, List.set_cons_succ]
        refine wpZ_take (i := 11) (v := .agg #[.int .u64 ((limb 0 (sh) : Nat) : Int), .int .u64 ((limb 1 (sh) : Nat) : Int), .int .u64 ((limb 2 (sh) : Nat) : Int), .int .u64 ((limb 3 (sh) : Nat) : Int)]) 58 rfl rfl (by kernel_rfl) (by kernel_rfl) (by kernel_rfl) (Or.inl (by kernel_rfl)) (fun _ _ _ h => h) (Or.inl ⟨by rfl, fun w hSw => by (have qq := (b9.belowAll hSw).cell; clear hSw; go_simp)⟩) hp0_0 ?_
        simp only [Act.put, List.setIfInBounds_toArray]
        dsimp only [List.set_cons_zero, List.set_cons_succ]
        refine wpZ_one (i := 12) (by kernel_rfl) rfl (fun K hK => ?_)
        go_simp
        refine (HMU.out wD).mono ?_
        rintro e wT1 ⟨rfl, hbT1⟩
        have hlowT1 := bStep hlow0 hbT1
        go_wp2_with fail
        refine hK.out _ _ (fun _ => hlowT1) ?_
        clear hK K hbT1
        refine wpZ_take (i := 13) (v := .pointer (some ⟨Gq, (i * 4), none⟩)) 60 rfl rfl (by kernel_rfl) (by kernel_rfl) (by kernel_rfl) (Or.inl (by kernel_rfl)) (fun _ _ _ h => h) (Or.inl ⟨by rfl, fun w hSw => by go_simp⟩) hlowT1 ?_
        simp only [Act.put, List.setIfInBounds_toArray]
        dsimp only [List.set_cons_zero, List.set_cons_succ]
        refine wpZ_one (i := 14) (by kernel_rfl) rfl (fun K hK => ?_)
        have bS := bq.belowAll hlowT1
        have o0 := bS.cell i hiA 0 (by decide); have o1 := bS.cell i hiA 1 (by decide); have o2 := bS.cell i hiA 2 (by decide); have o3 := bS.cell i hiA 3 (by decide)
        rw [Nat.add_zero] at o0
        have fo := bS.frozen
        obtain ⟨w7, hw7, bq7, hk7⟩ := bS.put hiA y
        go_simp
        refine hK.out _ _ (fun h => absurd rfl h) ?_
        clear hK K
        refine wpZ_done (by kernel_rfl) ?_ _
        have hbr7 := bKept (bStep hbr hlowT1) lq hk7
        have b97 := (b9.belowAll hlowT1).kept (by omega) hk7
        have bo7 := (bo.belowAll hlowT1).kept (by omega) hk7
        have bq8 : BlkE w7 Gq A (fun j => if i ≤ j ∧ j < Q then dqt s (fun i => addP s (f i) 0) (fun i => addP s (g i) 0) B sh Q j else 0) := bq7.congr (fun j hj => by
          by_cases c : j = i
          · rw [if_pos c, if_pos (by omega), c]; exact HY.out.symm
          · rw [if_neg c]
            by_cases d : i + 1 ≤ j ∧ j < Q
            · rw [if_pos d, if_pos (by omega)]
            · rw [if_neg d, if_neg (by omega)])
        clear bS bq7 hk7 hbr o0 o1 o2 o3 fo hw7 HXC HMU bo bq b9
        go_wp2
        go_loopw [13] (fun jv wr => ∃ j : Nat, jv = .int .i64 (j : Int) ∧ j ≤ B ∧ Below w2.heap.size w2 wr ∧ Blk wr 25 N9 (fun i => limb i sh) ∧ BlkE wr Gq A (fun j => if i ≤ j ∧ j < Q then dqt s (fun i => addP s (f i) 0) (fun i => addP s (g i) 0) B sh Q j else 0) ∧ BlkP wr g8 A (fun t => if i ≤ t ∧ t < i + j then subP s (drs s (fun i => addP s (f i) 0) (fun i => addP s (g i) 0) B sh Q (Q - (i + 1)) t) (mulP s (dqt s (fun i => addP s (f i) 0) (fun i => addP s (g i) 0) B sh Q i) ((fun i => addP s (g i) 0) (t - i))) else drs s (fun i => addP s (f i) 0) (fun i => addP s (g i) 0) B sh Q (Q - (i + 1)) t)) (fun jv _ => B - (intOf jv).toNat)
        case atStart => exact ⟨0, rfl, Nat.zero_le _, hbr7, b97, bq8, bo7.congr (fun t _ => by rw [if_neg (by omega)])⟩
        case round =>
          clear hbr7 b97 bo7 bq8
          obtain ⟨j, rfl, hj, hbr, b9, bq, bo⟩ := hrel
          by_cases hjm : j < B
          · have hji : (j : Int) < (B : Int) := by omega
            obtain ⟨p, ep⟩ : ∃ p, p = i + j := ⟨_, rfl⟩
            have hpi : (i : Int) + (j : Int) = (p : Int) := by omega
            have hpA : p < A := by have := HQ.out; omega
            have hpAi : (p : Int) < (A : Int) := by omega
            have HP : Hid (p = i + j) := ep
            have HWP : Hid (IntKind.i64.wrap (p : Int) = (p : Int)) := wrap_i64_nat p (by omega)
            clear ep
            rcases HEB.out.take with ⟨h0, _⟩ | ⟨zb1, zo1, hzz, _, _, zl, zc⟩
            · cases h0
            cases hzz
            obtain ⟨z, ez⟩ : ∃ x, x = addP s (g j) 0 := ⟨_, rfl⟩
            have HZC : Hid (∀ w', Below wr.heap.size wr w' → w'.cell? ⟨zb, (zo + j * 4), none⟩ = some (.int .u64 ((limb 0 z : Nat) : Int)) ∧ w'.cell? ⟨zb, (zo + j * 4) + 1, none⟩ = some (.int .u64 ((limb 1 z : Nat) : Int)) ∧ w'.cell? ⟨zb, (zo + j * 4) + 2, none⟩ = some (.int .u64 ((limb 2 z : Nat) : Int)) ∧ w'.cell? ⟨zb, (zo + j * 4) + 3, none⟩ = some (.int .u64 ((limb 3 z : Nat) : Int))) := fun w' hlb => by
              have hb := bStep hbr hlb
              have c0 := zc j hjm 0 (by decide); have c1 := zc j hjm 1 (by decide); have c2 := zc j hjm 2 (by decide); have c3 := zc j hjm 3 (by decide)
              rw [← ez] at c0 c1 c2 c3
              exact ⟨(hb.cell (p := ⟨zb, zo + j * 4 + 0, none⟩) zl).trans c0, (hb.cell (p := ⟨zb, zo + j * 4 + 1, none⟩) zl).trans c1, (hb.cell (p := ⟨zb, zo + j * 4 + 2, none⟩) zl).trans c2, (hb.cell (p := ⟨zb, zo + j * 4 + 3, none⟩) zl).trans c3⟩
            have HEz : Hid (z = addP s (g j) 0) := ez
            clear zc ez
            obtain ⟨u, eu⟩ : ∃ u, u = drs s (fun i => addP s (f i) 0) (fun i => addP s (g i) 0) B sh Q (Q - (i + 1)) p := ⟨_, rfl⟩
            have HUC : Hid (∀ w', Below wr.heap.size wr w' → w'.cell? ⟨g8, p * 4, none⟩ = some (.int .u64 ((limb 0 u : Nat) : Int)) ∧ w'.cell? ⟨g8, p * 4 + 1, none⟩ = some (.int .u64 ((limb 1 u : Nat) : Int)) ∧ w'.cell? ⟨g8, p * 4 + 2, none⟩ = some (.int .u64 ((limb 2 u : Nat) : Int)) ∧ w'.cell? ⟨g8, p * 4 + 3, none⟩ = some (.int .u64 ((limb 3 u : Nat) : Int))) := fun w' hb => four_ofP (bo.belowAll hb) hpA (by rw [if_neg (by have := HP.out; omega)]; exact eu.symm)
            obtain ⟨y, ey⟩ : ∃ u, u = dqt s (fun i => addP s (f i) 0) (fun i => addP s (g i) 0) B sh Q i := ⟨_, rfl⟩
            have HYC : Hid (∀ w', Below wr.heap.size wr w' → w'.cell? ⟨Gq, i * 4, none⟩ = some (.int .u64 ((limb 0 y : Nat) : Int)) ∧ w'.cell? ⟨Gq, i * 4 + 1, none⟩ = some (.int .u64 ((limb 1 y : Nat) : Int)) ∧ w'.cell? ⟨Gq, i * 4 + 2, none⟩ = some (.int .u64 ((limb 2 y : Nat) : Int)) ∧ w'.cell? ⟨Gq, i * 4 + 3, none⟩ = some (.int .u64 ((limb 3 y : Nat) : Int))) := fun w' hb => four_of (bq.belowAll hb) hiA (by rw [if_pos (by omega)]; exact ey.symm)
            have hM := HMUL.out y z (by rw [ey]; exact mulP_M _ _ _) (by rw [HEz.out]; exact addP_M _ _ _)
            obtain ⟨k, ek⟩ : ∃ k, k = mulP s y z := ⟨_, rfl⟩
            rw [← ek] at hM
            have hA := HSUB.out u k (by rw [eu]; exact drs_M (N := A) (fun _ _ => addP_M _ _ _) _ _ hpA) (by rw [ek]; exact mulP_M _ _ _)
            obtain ⟨v, ev⟩ : ∃ y, y = subP s u k := ⟨_, rfl⟩
            rw [← ev] at hA
            have HMU : Hid (∀ w, Calls Tryd.prog 38 #[.int .i64 (s : Int), .agg #[.int .u64 ((limb 0 (y) : Nat) : Int), .int .u64 ((limb 1 (y) : Nat) : Int), .int .u64 ((limb 2 (y) : Nat) : Int), .int .u64 ((limb 3 (y) : Nat) : Int)], .agg #[.int .u64 ((limb 0 (z) : Nat) : Int), .int .u64 ((limb 1 (z) : Nat) : Int), .int .u64 ((limb 2 (z) : Nat) : Int), .int .u64 ((limb 3 (z) : Nat) : Int)]] w fun e w' => e = .returned (.agg #[.int .u64 ((limb 0 (k) : Nat) : Int), .int .u64 ((limb 1 (k) : Nat) : Int), .int .u64 ((limb 2 (k) : Nat) : Int), .int .u64 ((limb 3 (k) : Nat) : Int)]) ∧ Below w.heap.size w w') := hM
            have HSU : Hid (∀ w, Calls Tryd.prog 51 #[.int .i64 (s : Int), .agg #[.int .u64 ((limb 0 (u) : Nat) : Int), .int .u64 ((limb 1 (u) : Nat) : Int), .int .u64 ((limb 2 (u) : Nat) : Int), .int .u64 ((limb 3 (u) : Nat) : Int)], .agg #[.int .u64 ((limb 0 (k) : Nat) : Int), .int .u64 ((limb 1 (k) : Nat) : Int), .int .u64 ((limb 2 (k) : Nat) : Int), .int .u64 ((limb 3 (k) : Nat) : Int)]] w fun e w' => e = .returned (.agg #[.int .u64 ((limb 0 (v) : Nat) : Int), .int .u64 ((limb 1 (v) : Nat) : Int), .int .u64 ((limb 2 (v) : Nat) : Int), .int .u64 ((limb 3 (v) : Nat) : Int)]) ∧ Below w.heap.size w w') := hA
            have HV2 : Hid (v = subP s (drs s (fun i => addP s (f i) 0) (fun i => addP s (g i) 0) B sh Q (Q - (i + 1)) p) (mulP s (dqt s (fun i => addP s (f i) 0) (fun i => addP s (g i) 0) B sh Q i) ((fun i => addP s (g i) 0) (p - i)))) := by show v = _; rw [ev, eu, ek, ey, HEz.out, HP.out, show i + j - i = j by omega]
            clear ey ek eu ev hM hA
            go_upto_region 14 with fail
            refine wp_region_Z (fun w' => Below wr.heap.size wr w') 23 (by kernel_rfl) ?_
            obtain ⟨wD, hD⟩ : ∃ x : World, x = wr.drew := ⟨_, rfl⟩
            rw [← hD]
            have hp0_0 : Below wr.heap.size wr wD := by rw [hD]; exact (Below.refl _ _).drew
            have hlow0 : Below wr.heap.size wr wD := by rw [hD]; exact (Below.refl _ _).drew
            clear hD
            refine wpZ_take (i := 0) (v := .slice (some ⟨g8, 0, none⟩) A c8) 67 rfl rfl (by kernel_rfl) (by kernel_rfl) (by kernel_rfl) (Or.inl (by kernel_rfl)) (fun _ _ _ h => h) (Or.inl ⟨by rfl, fun w hSw => by go_simp⟩) hp0_0 ?_
            simp only [Act.put, List.setIfInBounds_toArray]
            dsimp only [List.set_cons_zero, List.set_cons_succ]
            refine wpZ_take (i := 1) (v := .int .i64 (i : Int)) 68 rfl rfl (by kernel_rfl) (by kernel_rfl) (by kernel_rfl) (Or.inl (by kernel_rfl)) (fun _ _ _ h => h) (Or.inl ⟨by rfl, fun w hSw => by go_simp⟩) hp0_0 ?_
            simp only [Act.put, List.setIfInBounds_toArray]
            dsimp only [List.set_cons_zero, List.set_cons_succ]
            refine wpZ_take (i := 2) (v := .int .i64 (j : Int)) 69 rfl rfl (by kernel_rfl) (by kernel_rfl) (by kernel_rfl) (Or.inl (by kernel_rfl)) (fun _ _ _ h => h) (Or.inl ⟨by rfl, fun w hSw => by go_simp⟩) hp0_0 ?_
            simp only [Act.put, List.setIfInBounds_toArray]
            dsimp only [List.set_cons_zero, List.set_cons_succ]
            refine wpZ_take (i := 3) (v := .int .i64 (p : Int)) 70 rfl rfl (by kernel_rfl) (by kernel_rfl) (by kernel_rfl) (Or.inl (by kernel_rfl)) (fun _ _ _ h => h) (Or.inl ⟨by rfl, fun w hSw => by (have hwp := HWP.out; clear hSw; go_simp)⟩) hp0_0 ?_
            simp only [Act.put, List.setIfInBounds_toArray]
            dsimp only [List.set_cons_zero, List.set_cons_succ]
            refine wpZ_take (i := 4) (v := .int .i64 (s : Int)) 71 rfl rfl (by kernel_rfl) (by kernel_rfl) (by kernel_rfl) (Or.inl (by kernel_rfl)) (fun _ _ _ h => h) (Or.inl ⟨by rfl, fun w hSw => by go_simp⟩) hp0_0 ?_
            simp only [Act.put, List.setIfInBounds_toArray]
            dsimp only [List.set_cons_zero, List.set_cons_succ]
            refine wpZ_take (i := 5) (v := .slice (some ⟨g8, 0, none⟩) A c8) 72 rfl rfl (by kernel_rfl) (by kernel_rfl) (by kernel_rfl) (Or.inl (by kernel_rfl)) (fun _ _ _ h => h) (Or.inl ⟨by rfl, fun w hSw => by go_simp⟩) hp0_0 ?_
            simp only [Act.put, List.setIfInBounds_toArray]
            dsimp only [List.set_cons_zero, List.set_cons_succ]
            refine wpZ_take (i := 6) (v := .int .i64 (i : Int)) 73 rfl rfl (by kernel_rfl) (by kernel_rfl) (by kernel_rfl) (Or.inl (by kernel_rfl)) (fun _ _ _ h => h) (Or.inl ⟨by rfl, fun w hSw => by go_simp⟩) hp0_0 ?_
            simp only [Act.put, List.setIfInBounds_toArray]
            dsimp only [List.set_cons_zero, List.set_cons_succ]
            refine wpZ_take (i := 7) (v := .int .i64 (j : Int)) 74 rfl rfl (by kernel_rfl) (by kernel_rfl) (by kernel_rfl) (Or.inl (by kernel_rfl)) (fun _ _ _ h => h) (Or.inl ⟨by rfl, fun w hSw => by go_simp⟩) hp0_0 ?_
            simp only [Act.put, List.setIfInBounds_toArray]
            dsimp only [List.set_cons_zero, List.set_cons_succ]
            refine wpZ_take (i := 8) (v := .int .i64 (p : Int)) 75 rfl rfl (by kernel_rfl) (by kernel_rfl) (by kernel_rfl) (Or.inl (by kernel_rfl)) (fun _ _ _ h => h) (Or.inl ⟨by rfl, fun w hSw => by (have hwp := HWP.out; clear hSw; go_simp)⟩) hp0_0 ?_
            simp only [Act.put, List.setIfInBounds_toArray]
            dsimp only [List.set_cons_zero, List.set_cons_succ]
            refine wpZ_take (i := 9) (v := .pointer (some ⟨g8, (p * 4), none⟩)) 76 rfl rfl (by kernel_rfl) (by kernel_rfl) (by kernel_rfl) (Or.inl (by kernel_rfl)) (fun _ _ _ h => h) (Or.inl ⟨by rfl, fun w hSw => by go_simp⟩) hp0_0 ?_
            simp only [Act.put, List.setIfInBounds_toArray]
            dsimp only [List.set_cons_zero, List.set_cons_succ]
            refine wpZ_take (i := 10) (v := .agg #[.int .u64 ((limb 0 (u) : Nat) : Int), .int .u64 ((limb 1 (u) : Nat) : Int), .int .u64 ((limb 2 (u) : Nat) : Int), .int .u64 ((limb 3 (u) : Nat) : Int)]) 77 rfl rfl (by kernel_rfl) (by kernel_rfl) (by kernel_rfl) (Or.inl (by kernel_rfl)) (fun _ _ _ h => h) (Or.inl ⟨by rfl, fun w hSw => by (obtain ⟨q0, q1, q2, q3⟩ := HUC.out w hSw; clear hSw; go_simp)⟩) hp0_0 ?_
            simp only [Act.put, List.setIfInBounds_toArray]
            dsimp only [List.set_cons_zero, List.set_cons_succ]
            refine wpZ_take (i := 11) (v := .int .i64 (s : Int)) 78 rfl rfl (by kernel_rfl) (by kernel_rfl) (by kernel_rfl) (Or.inl (by kernel_rfl)) (fun _ _ _ h => h) (Or.inl ⟨by rfl, fun w hSw => by go_simp⟩) hp0_0 ?_
            simp only [Act.put, List.setIfInBounds_toArray]
            dsimp only [List.set_cons_zero, List.set_cons_succ]
            refine wpZ_take (i := 12) (v := .slice (some ⟨Gq, 0, none⟩) A A) 79 rfl rfl (by kernel_rfl) (by kernel_rfl) (by kernel_rfl) (Or.inl (by kernel_rfl)) (fun _ _ _ h => h) (Or.inl ⟨by rfl, fun w hSw => by go_simp⟩) hp0_0 ?_
            simp only [Act.put, List.setIfInBounds_toArray]
            dsimp only [List.set_cons_zero, List.set_cons_succ]
            refine wpZ_take (i := 13) (v := .int .i64 (i : Int)) 80 rfl rfl (by kernel_rfl) (by kernel_rfl) (by kernel_rfl) (Or.inl (by kernel_rfl)) (fun _ _ _ h => h) (Or.inl ⟨by rfl, fun w hSw => by go_simp⟩) hp0_0 ?_
            simp only [Act.put, List.setIfInBounds_toArray]
            dsimp only [List.set_cons_zero, List.set_cons_succ]
            refine wpZ_take (i := 14) (v := .pointer (some ⟨Gq, (i * 4), none⟩)) 81 rfl rfl (by kernel_rfl) (by kernel_rfl) (by kernel_rfl) (Or.inl (by kernel_rfl)) (fun _ _ _ h => h) (Or.inl ⟨by rfl, fun w hSw => by go_simp⟩) hp0_0 ?_
            simp only [Act.put, List.setIfInBounds_toArray]
            dsimp only [List.set_cons_zero, List.set_cons_succ]
            refine wpZ_take (i := 15) (v := .agg #[.int .u64 ((limb 0 (y) : Nat) : Int), .int .u64 ((limb 1 (y) : Nat) : Int), .int .u64 ((limb 2 (y) : Nat) : Int), .int .u64 ((limb 3 (y) : Nat) : Int)]) 82 rfl rfl (by kernel_rfl) (by kernel_rfl) (by kernel_rfl) (Or.inl (by kernel_rfl)) (fun _ _ _ h => h) (Or.inl ⟨by rfl, fun w hSw => by (obtain ⟨q0, q1, q2, q3⟩ := HYC.out w hSw; clear hSw; go_simp)⟩) hp0_0 ?_
            simp only [Act.put, List.setIfInBounds_toArray]
            dsimp only [List.set_cons_zero, List.set_cons_succ]
            refine wpZ_take (i := 16) (v := .slice (some ⟨zb, zo, none⟩) B d) 83 rfl rfl (by kernel_rfl) (by kernel_rfl) (by kernel_rfl) (Or.inl (by kernel_rfl)) (fun _ _ _ h => h) (Or.inl ⟨by rfl, fun w hSw => by go_simp⟩) hp0_0 ?_
            simp only [Act.put, List.setIfInBounds_toArray]
            dsimp only [List.set_cons_zero, List.set_cons_succ]
            refine wpZ_take (i := 17) (v := .int .i64 (j : Int)) 84 rfl rfl (by kernel_rfl) (by kernel_rfl) (by kernel_rfl) (Or.inl (by kernel_rfl)) (fun _ _ _ h => h) (Or.inl ⟨by rfl, fun w hSw => by go_simp⟩) hp0_0 ?_
            simp only [Act.put, List.setIfInBounds_toArray]
            dsimp only [List.set_cons_zero, List.set_cons_succ]
            refine wpZ_take (i := 18) (v := .pointer (some ⟨zb, (zo + j * 4), none⟩)) 85 rfl rfl (by kernel_rfl) (by kernel_rfl) (by kernel_rfl) (Or.inl (by kernel_rfl)) (fun _ _ _ h => h) (Or.inl ⟨by rfl, fun w hSw => by go_simp⟩) hp0_0 ?_
            simp only [Act.put, List.setIfInBounds_toArray]
            dsimp only [List.set_cons_zero, List.set_cons_succ]
            refine wpZ_take (i := 19) (v := .agg #[.int .u64 ((limb 0 (z) : Nat) : Int), .int .u64 ((limb 1 (z) : Nat) : Int), .int .u64 ((limb 2 (z) : Nat) : Int), .int .u64 ((limb 3 (z) : Nat) : Int)]) 86 rfl rfl (by kernel_rfl) (by kernel_rfl) (by kernel_rfl) (Or.inl (by kernel_rfl)) (fun _ _ _ h => h) (Or.inl ⟨by rfl, fun w hSw => by (obtain ⟨q0, q1, q2, q3⟩ := HZC.out w hSw; clear hSw; go_simp)⟩) hp0_0 ?_
            simp only [Act.put, List.setIfInBounds_toArray]
            dsimp only [List.set_cons_zero, List.set_cons_succ]
            refine wpZ_one (i := 20) (by kernel_rfl) rfl (fun K hK => ?_)
            go_simp
            refine (HMU.out wD).mono ?_
            rintro e wT1 ⟨rfl, hbT1⟩
            have hlowT1 := bStep hlow0 hbT1
            go_wp2_with fail
            refine hK.out _ _ (fun _ => hlowT1) ?_
            clear hK K hbT1
            refine wpZ_one (i := 21) (by kernel_rfl) rfl (fun K hK => ?_)
            go_simp
            refine (HSU.out wT1).mono ?_
            rintro e wT2 ⟨rfl, hbT2⟩
            have hlowT2 := bStep hlowT1 hbT2
            go_wp2_with fail
            refine hK.out _ _ (fun _ => hlowT2) ?_
            clear hK K hbT2
            refine wpZ_take (i := 22) (v := .pointer (some ⟨g8, (p * 4), none⟩)) 89 rfl rfl (by kernel_rfl) (by kernel_rfl) (by kernel_rfl) (Or.inl (by kernel_rfl)) (fun _ _ _ h => h) (Or.inl ⟨by rfl, fun w hSw => by go_simp⟩) hlowT2 ?_
            simp only [Act.put, List.setIfInBounds_toArray]
            dsimp only [List.set_cons_zero, List.set_cons_succ]
            refine wpZ_one (i := 23) (by kernel_rfl) rfl (fun K hK => ?_)
            have bS := bo.belowAll hlowT2
            have o0 := bS.cell p hpA 0 (by decide); have o1 := bS.cell p hpA 1 (by decide); have o2 := bS.cell p hpA 2 (by decide); have o3 := bS.cell p hpA 3 (by decide)
            rw [Nat.add_zero] at o0
            have fo := bS.frozen
            obtain ⟨w7, hw7, bo7, hk7⟩ := bS.put hpA v
            go_simp
            refine hK.out _ _ (fun h => absurd rfl h) ?_
            clear hK K
            refine wpZ_done (by kernel_rfl) ?_ _
            have hbr7 := bKept (bStep hbr hlowT2) l8 hk7
            have b97 := (b9.belowAll hlowT2).kept (by omega) hk7
            have bq7 := (bq.belowAll hlowT2).kept (by omega) hk7
            have bo8 : BlkP w7 g8 A (fun t => if i ≤ t ∧ t < i + (j + 1) then subP s (drs s (fun i => addP s (f i) 0) (fun i => addP s (g i) 0) B sh Q (Q - (i + 1)) t) (mulP s (dqt s (fun i => addP s (f i) 0) (fun i => addP s (g i) 0) B sh Q i) ((fun i => addP s (g i) 0) (t - i))) else drs s (fun i => addP s (f i) 0) (fun i => addP s (g i) 0) B sh Q (Q - (i + 1)) t) := bo7.congr (fun t ht => by
              by_cases c : t = p
              · rw [if_pos c, if_pos (by have := HP.out; omega), c]; exact HV2.out.symm
              · rw [if_neg c]
                by_cases d : i ≤ t ∧ t < i + j
                · rw [if_pos d, if_pos (by omega)]
                · rw [if_neg d, if_neg (by have := HP.out; omega)])
            clear bS bo7 hk7 hbr o0 o1 o2 o3 fo hw7 HUC HYC HZC HSU HMU bo b9 bq
            go_wp2
            go_roundw
            case measure => simp [intOf]; omega
            case rel => exact ⟨j + 1, by go_num, by omega, hbr7, b97, bq7, bo8⟩
          · have hji : ¬ (j : Int) < (B : Int) := by omega
            obtain rfl : j = B := by omega
            have bo1 : BlkP wr g8 A (drs s (fun i => addP s (f i) 0) (fun i => addP s (g i) 0) j sh Q (Q - i)) := bo.congr (fun t _ => by
              rw [show Q - i = (Q - (i + 1)) + 1 by omega]
              show (if _ ∧ _ then _ else _) = _
              rw [show Q - (Q - (i + 1) + 1) = i by omega]
              by_cases c : i ≤ t ∧ t < i + j
              · rw [if_pos c, if_pos c]; exact (sub_add_neg s _ _ _).symm
              · rw [if_neg c, if_neg c])
            clear bo
            go_wp2
            go_roundw
            case measure => simp [intOf]
            case rel => exact ⟨i, by omega, by go_num, hbr, b9, bq, bo1⟩
      · have hi0 : ¬ (0 : Int) ≤ (k : Int) - 1 := by omega
        obtain rfl : k = 0 := by omega
        have HES1 : Hid (Es wr (.slice (some ⟨Gq, 0, none⟩) A A) A (dqz s (fun i => addP s (f i) 0) (fun i => addP s (g i) 0) B sh Q)) := (bq.congr (f := _) (g := dqz s (fun i => addP s (f i) 0) (fun i => addP s (g i) 0) B sh Q) (fun j _ => by unfold dqz; by_cases h : j < Q; rw [if_pos h, if_pos ⟨Nat.zero_le _, h⟩]; rw [if_neg h, if_neg (fun h2 => h h2.2)])).Es (by unfold maxLen; omega)
        have HES2 : Hid (Es wr (.slice (some ⟨g8, 0, none⟩) A c8) A (drs s (fun i => addP s (f i) 0) (fun i => addP s (g i) 0) B sh Q Q)) := by
          rw [Nat.sub_zero] at bo
          exact bo.Es hc8 hm8
        clear bq bo b9
        go_wp2_with fail
        refine (HTQ.out _ _ wr HES1.out).mono ?_
        rintro e w8 ⟨⟨oe, ce, rfl, hE⟩, hb8⟩
        have HE8 : Hid (Es w8 _ _ _) := hE
        clear hE
        go_wp2_with fail
        refine (HTR.out _ _ w8 (HES2.out.below hb8)).mono ?_
        rintro e w9 ⟨⟨of, cf, rfl, hE⟩, hb9⟩
        have HE9 : Hid (Es w9 _ _ _) := hE
        have HE89 : Hid (Es w9 _ _ _) := HE8.out.below hb9
        have hbw9 : Below w.heap.size w w9 := bStep (bStep (bStep hbw2 hbr) hb8) hb9
        clear hE hb8 hb9 HE8
        go_wp2
        go_ret2
        exact ⟨⟨_, _, rfl, HE89.out, HE9.out⟩, hbw9⟩
  · have hQ0 : Q = 0 := by have := HQ.out; omega
    obtain ⟨o8, c8, rfl, _, _, hes⟩ := own_cut hown6 (Nat.le_refl A)
    have hi0 : ¬ (0 : Int) ≤ (A : Int) - (B : Int) := by omega
    have HES1 : Hid (Es w6 (.slice (some ⟨Gq, 0, none⟩) A A) A (dqz s (fun i => addP s (f i) 0) (fun i => addP s (g i) 0) B sh Q)) := (bq6.congr (f := _) (g := dqz s (fun i => addP s (f i) 0) (fun i => addP s (g i) 0) B sh Q) (fun j _ => by unfold dqz; rw [if_neg (by omega)])).Es (by unfold maxLen; omega)
    have HES2 : Hid (Es w6 (.slice o8 A c8) A (drs s (fun i => addP s (f i) 0) (fun i => addP s (g i) 0) B sh Q Q)) := by rw [hQ0]; exact hes
    obtain ⟨wr0, hwr⟩ : ∃ z : World, z = w6 := ⟨_, rfl⟩
    clear hwr wr0 hown6 hes bq6 b96 HL3 hQ0
    go_wp2
    go_loopw [12] (fun iv wr => iv = .int .i64 ((A : Int) - (B : Int)) ∧ wr = w6) (fun _ _ => 0)
    case atStart => exact ⟨rfl, rfl⟩
    case round =>
      obtain ⟨rfl, hwr⟩ := hrel
      rw [← hwr] at HES1 HES2 hx6
      have hbr := hx6
      clear hwr hx6
      go_wp2_with fail
      refine (HTQ.out _ _ wr HES1.out).mono ?_
      rintro e w8 ⟨⟨oe, ce, rfl, hE⟩, hb8⟩
      have HE8 : Hid (Es w8 _ _ _) := hE
      clear hE
      go_wp2_with fail
      refine (HTR.out _ _ w8 (HES2.out.below hb8)).mono ?_
      rintro e w9 ⟨⟨of, cf, rfl, hE⟩, hb9⟩
      have HE9 : Hid (Es w9 _ _ _) := hE
      have HE89 : Hid (Es w9 _ _ _) := HE8.out.below hb9
      have hbw9 : Below w.heap.size w w9 := bStep (bStep (bStep hbw2 hbr) hb8) hb9
      clear hE hb8 hb9 HE8
      go_wp2
      go_ret2
      exact ⟨⟨_, _, rfl, HE89.out, HE9.out⟩, hbw9⟩
end Go.Proofs.YtfjdnlcfhgamfaaDoor
