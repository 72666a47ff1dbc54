/- Maps from queries to elements; (setting).has. -/
import Derived.Test.YtgldibfpidmfhaaGreatDoorUCQ1
import Derived.Test.YtgldibfpidmfhaaGreatDoorUL1
namespace Go.Proofs.YtgldibfpidmfhaaGreatDoor
open Go.RowKit
open Go.Maps
/-- An element as data. -/
def elD (x : Nat) : DataW Unit := .agg [.lit (.int .u64 ((limb 0 x : Nat) : Int)), .lit (.int .u64 ((limb 1 x : Nat) : Int)), .lit (.int .u64 ((limb 2 x : Nat) : Int)), .lit (.int .u64 ((limb 3 x : Nat) : Int))]
/-- How a map's element reads. -/
def elemR : Value → Option (DataW Unit × List MemPlace)
  | .agg cs => match cs.toList with
    | [.int .u64 a, .int .u64 b, .int .u64 c, .int .u64 d] => some (.agg [.lit (.int .u64 a), .lit (.int .u64 b), .lit (.int .u64 c), .lit (.int .u64 d)], [])
    | _ => none
  | _ => none
theorem elemR_mk (x : Nat) : elemR (.agg #[.int .u64 ((limb 0 (x) : Nat) : Int), .int .u64 ((limb 1 (x) : Nat) : Int), .int .u64 ((limb 2 (x) : Nat) : Int), .int .u64 ((limb 3 (x) : Nat) : Int)]) = some (elD x, []) := rfl
theorem elemR_inv {v : Value} {x : Nat} {ps : List MemPlace} (h : elemR v = some (elD x, ps)) : v = .agg #[.int .u64 ((limb 0 (x) : Nat) : Int), .int .u64 ((limb 1 (x) : Nat) : Int), .int .u64 ((limb 2 (x) : Nat) : Int), .int .u64 ((limb 3 (x) : Nat) : Int)] := by
  unfold elemR at h
  split at h
  · next cs =>
    split at h
    · next a b c d hl =>
      unfold elD at h
      simp only [Option.some.injEq, Prod.mk.injEq, DataW.agg.injEq, List.cons.injEq, DataW.lit.injEq, Lit.int.injEq, and_true, true_and] at h
      obtain ⟨⟨rfl, rfl, rfl, rfl⟩, _⟩ := h
      have : cs = cs.toList.toArray := by simp
      rw [this, hl]
    · cases h
  · cases h
theorem zeroEl (w : World) : (zeroValue 50).run Tryz.prog w = .ok (.agg #[.int .u64 ((limb 0 (0) : Nat) : Int), .int .u64 ((limb 1 (0) : Nat) : Int), .int .u64 ((limb 2 (0) : Nat) : Int), .int .u64 ((limb 3 (0) : Nat) : Int)]) w := by
  have h : (zeroValue 50).run Tryz.prog w = .ok (.agg #[.int .u64 0, .int .u64 0, .int .u64 0, .int .u64 0]) w := by kernel_rfl
  rw [h]
  rw [limb_zero, limb_zero, limb_zero, limb_zero]
  rfl
/-- Block b maps the queries q to the numbers M q; it has at most n entries. -/
def MapE (w : World) (b n : Nat) (M : Int × Int × Int → Option Nat) : Prop :=
  ∃ D : DataW Unit, w.ownsMap Tryz.prog 118 elemR b n D ∧ IsMap D ∧ ∀ q, rngQ q → Maps.has D (kyQ q) = (M q).isSome ∧ D.atKey (kyQ q) (elD 0) = elD ((M q).getD 0)
section
variable {w w' : World} {b n : Nat} {M : Int × Int × Int → Option Nat}
theorem MapE.keep (h : MapE w b n M) (hb : w'.heap[b]? = w.heap[b]?) : MapE w' b n M := by
  obtain ⟨D, ⟨es, clock, hb', F, hs, hD⟩, h2⟩ := h
  exact ⟨D, ⟨es, clock, hb.trans hb', F, hs, hD⟩, h2⟩
theorem MapE.lt (h : MapE w b n M) : b < w.heap.size := by
  obtain ⟨D, h1, _⟩ := h
  exact h1.lt
theorem MapE.below (h : MapE w b n M) (hb : Below w.heap.size w w') : MapE w' b n M := h.keep (hb.block b h.lt)
theorem MapE.mono (h : MapE w b n M) {m : Nat} (hm : n ≤ m) : MapE w b m M := by
  obtain ⟨D, h1, h2⟩ := h
  exact ⟨D, h1.mono hm, h2⟩
theorem MapE.made (w : World) : MapE (w.alloc (.map #[] 0)) w.heap.size 0 (fun _ => none) :=
  ⟨.map [], World.ownsMap_made w Tryz.prog _ _, isMap_empty, fun _ _ => ⟨rfl, rfl⟩⟩
theorem MapE.look (h : MapE w b n M) (q : Int × Int × Int) (hq : rngQ q) :
    (Instr.lookup 157 (.map (some b)) (.agg #[.int .i64 q.1, .int .i64 q.2.1, .int .i64 q.2.2]) true).run Tryz.prog w = .ok (.tuple #[.agg #[.int .u64 ((limb 0 ((M q).getD 0) : Nat) : Int), .int .u64 ((limb 1 ((M q).getD 0) : Nat) : Int), .int .u64 ((limb 2 ((M q).getD 0) : Nat) : Int), .int .u64 ((limb 3 ((M q).getD 0) : Nat) : Int)], .bool (M q).isSome]) w := by
  obtain ⟨D, h1, _, h3⟩ := h
  obtain ⟨v, ps, hrun, hv⟩ := h1.look_ok lawQ Tryz.underlying157 (zeroEl w) (elemR_mk 0) (keyOf_qry q hq)
  rw [(h3 q hq).2] at hv
  rw [(h3 q hq).1, elemR_inv hv] at hrun
  exact hrun
theorem MapE.look1 (h : MapE w b n M) (q : Int × Int × Int) (hq : rngQ q) :
    (Instr.lookup 157 (.map (some b)) (.agg #[.int .i64 q.1, .int .i64 q.2.1, .int .i64 q.2.2]) false).run Tryz.prog w = .ok (.agg #[.int .u64 ((limb 0 ((M q).getD 0) : Nat) : Int), .int .u64 ((limb 1 ((M q).getD 0) : Nat) : Int), .int .u64 ((limb 2 ((M q).getD 0) : Nat) : Int), .int .u64 ((limb 3 ((M q).getD 0) : Nat) : Int)]) w := by
  obtain ⟨D, h1, _, h3⟩ := h
  obtain ⟨v, ps, hrun, hv⟩ := h1.lookup lawQ Tryz.underlying157 (zeroEl w) (elemR_mk 0) (keyOf_qry q hq)
  rw [(h3 q hq).2] at hv
  rw [elemR_inv hv] at hrun
  exact hrun
theorem MapE.put (h : MapE w b n M) (hn : n < 1000000000) (q : Int × Int × Int) (hq : rngQ q) (x : Nat) :
    ∃ w', (Instr.mapUpdate 157 (.map (some b)) (.agg #[.int .i64 q.1, .int .i64 q.2.1, .int .i64 q.2.2]) (.agg #[.int .u64 ((limb 0 (x) : Nat) : Int), .int .u64 ((limb 1 (x) : Nat) : Int), .int .u64 ((limb 2 (x) : Nat) : Int), .int .u64 ((limb 3 (x) : Nat) : Int)])).run Tryz.prog w = .ok () w' ∧ MapE w' b (n + 1) (fun p => if p = q then some x else M p) ∧ w.grownBy w' (some b) := by
  obtain ⟨D, h1, h2, h3⟩ := h
  obtain ⟨w', hr, ho, hg⟩ := h1.update lawQ Tryz.underlying157 (by unfold maxLen; omega) (keyOf_qry q hq) (elemR_mk x)
  refine ⟨w', hr, ⟨_, ho, h2.put _ _, fun p hp => ?_⟩, hg⟩
  dsimp only
  by_cases he : p = q
  · rw [if_pos he, he]
    exact ⟨has_put_same h2 (by simp [kyQ, WideAt.IsKeyLit]) _, atKey_put_same h2 (by simp [kyQ, WideAt.IsKeyLit]) _ _⟩
  · rw [if_neg he, has_put_other (fun e => he (kyQ_inj hp hq e)), atKey_put_other (fun e => he (kyQ_inj hp hq e))]
    exact h3 p hp
end
set_option maxHeartbeats 8000000 in
set_option maxRecDepth 100000 in
theorem has_any (s : Int) (b n : Nat) (M : Int × Int × Int → Option Nat) (q : Int × Int × Int) (hq : rngQ q) (w : World) (hm : MapE w b n M) :
    Calls Tryz.prog 93 #[.agg #[.int .i64 s, .map (some b)], .agg #[.int .i64 q.1, .int .i64 q.2.1, .int .i64 q.2.2]] w fun e w' => e = .returned (.bool (M q).isSome) ∧ Below w.heap.size w w' := by
  obtain ⟨kd, cl, rt⟩ := q
  obtain ⟨w1, ew1⟩ : ∃ x : World, x = w.alloc (.cells #[.int .i64 s, .map (some b)] 159) := ⟨_, rfl⟩
  have hb1 : Below w.heap.size w w1 := by rw [ew1]; exact bAlloc (Below.refl _ _) _
  obtain ⟨b1, eb1⟩ : ∃ x, x = w.heap.size := ⟨_, rfl⟩
  have f1 : w1.heap[b1]? = some (.cells #[.int .i64 s, .map (some b)] 159) := by rw [ew1, eb1]; show (w.heap.push _)[w.heap.size]? = _; simp
  obtain ⟨b2, eb2⟩ : ∃ x, x = w.heap.size + 1 := ⟨_, rfl⟩
  have eb2' : w1.heap.size = b2 := by rw [ew1, eb2]; simp
  obtain ⟨w2, ew2⟩ : ∃ x : World, x = w1.alloc (.cells #[.int .i64 kd, .int .i64 cl, .int .i64 rt] 118) := ⟨_, rfl⟩
  have hb12 : Below w1.heap.size w1 w2 := by rw [ew2]; exact bAlloc (Below.refl _ _) _
  have f12 := (hb12.block b1 (Array.getElem?_eq_some_iff.1 f1).1).trans f1
  have f22 : w2.heap[b2]? = some (.cells #[.int .i64 kd, .int .i64 cl, .int .i64 rt] 118) := by rw [ew2, ← eb2']; show (w1.heap.push _)[w1.heap.size]? = _; simp
  have hlk := ((hm.below hb1).below hb12).look (kd, cl, rt) hq
  dsimp only at hlk
  obtain ⟨bv, ebv⟩ : ∃ v, v = (M (kd, cl, rt)).isSome := ⟨_, rfl⟩
  obtain ⟨E, eE⟩ : ∃ v, v = (M (kd, cl, rt)).getD 0 := ⟨_, rfl⟩
  rw [← ebv, ← eE] at hlk
  rw [← ebv]
  have c1 : w2.cell? ⟨b1, 1, none⟩ = some (.map (some b)) := cell_of_block f12 1
  have c2 : w2.cell? ⟨b2, 0, none⟩ = some (.int .i64 kd) := cell_of_block f22 0
  have c3 : w2.cell? ⟨b2, 1, none⟩ = some (.int .i64 cl) := cell_of_block f22 1
  have c4 : w2.cell? ⟨b2, 2, none⟩ = some (.int .i64 rt) := cell_of_block f22 2
  have HB2 : Hid (Below w.heap.size w w2) := bStep hb1 hb12
  clear hm hb1 hb12 f1 f12 f22 ebv eE hq
  go_enter Tryz.func93, Tryz.ntmps93
  go_upto_region 1 with fail
  rw [← ew1, ← eb2, ← eb1, ← ew2]
  clear ew1 eb1 eb2 eb2' ew2
  go_wp2
  go_ret
  exact ⟨rfl, bAlloc HB2.out _⟩
end Go.Proofs.YtgldibfpidmfhaaGreatDoor

/- expr.settingOf. -/
namespace Go.Proofs.YtgldibfpidmfhaaGreatDoor
open Go.RowKit
open Go.Maps
/-- The number that a query has: its first one. -/
def fsM (Q : Nat → Int × Int × Int) (A : Nat → Nat) : Nat → Int × Int × Int → Option Nat
  | 0, _ => none
  | k + 1, q => if (fsM Q A k q).isSome = true then fsM Q A k q else if Q k = q then some (A k) else none
theorem fsM_old {Q : Nat → Int × Int × Int} {A : Nat → Nat} {k : Nat} (h : (fsM Q A k (Q k)).isSome = true) : fsM Q A (k + 1) = fsM Q A k := by
  funext q
  show (if (fsM Q A k q).isSome = true then fsM Q A k q else if Q k = q then some (A k) else none) = _
  by_cases h1 : (fsM Q A k q).isSome = true
  · rw [if_pos h1]
  · rw [if_neg h1]
    by_cases h2 : Q k = q
    · rw [h2] at h; exact absurd h h1
    · rw [if_neg h2]
      cases h3 : fsM Q A k q with
      | none => rfl
      | some x => rw [h3] at h1; exact absurd rfl h1
theorem fsM_new {Q : Nat → Int × Int × Int} {A : Nat → Nat} {k : Nat} (h : (fsM Q A k (Q k)).isSome = false) : fsM Q A (k + 1) = fun p => if p = Q k then some (A k) else fsM Q A k p := by
  funext q
  show (if (fsM Q A k q).isSome = true then fsM Q A k q else if Q k = q then some (A k) else none) = _
  by_cases h2 : q = Q k
  · rw [h2, h, if_neg (by decide), if_pos rfl]
    rw [if_pos rfl]
  · rw [if_neg h2]
    by_cases h1 : (fsM Q A k q).isSome = true
    · rw [if_pos h1]
    · rw [if_neg h1, if_neg (fun e => h2 e.symm)]
      cases h3 : fsM Q A k q with
      | none => rfl
      | some x => rw [h3] at h1; exact absurd rfl h1
theorem makeMapH (n : Nat) (w : World) : (Instr.makeMap 157 (some (.int .i64 (n : Int)))).run Tryz.prog w = .ok (.map (some w.heap.size)) (w.alloc (.map #[] 0)) := by
  kernel_rfl
/-- What settingOf leaves while it goes on. -/
def SetW (w : World) (s : Int) (B0 B1 B2 k : Nat) (M : Int × Int × Int → Option Nat) : Prop := MapE w B1 k M ∧ w.heap[B0]? = some (.cells #[.int .i64 0, .map none] 159) ∧ w.heap[B2]? = some (.cells #[.int .i64 s, .map (some B1)] 159)
theorem SetW.below {w w' : World} {s : Int} {B0 B1 B2 k : Nat} {M : Int × Int × Int → Option Nat} (h : SetW w s B0 B1 B2 k M) (hb : Below w.heap.size w w') : SetW w' s B0 B1 B2 k M :=
  ⟨h.1.below hb, (hb.block B0 (Array.getElem?_eq_some_iff.1 h.2.1).1).trans h.2.1, (hb.block B2 (Array.getElem?_eq_some_iff.1 h.2.2).1).trans h.2.2⟩
theorem SetW.put {w w' : World} {s : Int} {B0 B1 B2 k j : Nat} {M N : Int × Int × Int → Option Nat} (h : SetW w s B0 B1 B2 k M) (hm : MapE w' B1 j N) (hg : w.grownBy w' (some B1)) (h0 : B0 ≠ B1) (h2 : B2 ≠ B1) : SetW w' s B0 B1 B2 j N :=
  ⟨hm, (hg.block B0 (Array.getElem?_eq_some_iff.1 h.2.1).1 (fun e => h0 (by cases e; rfl))).trans h.2.1, (hg.block B2 (Array.getElem?_eq_some_iff.1 h.2.2).1 (fun e => h2 (by cases e; rfl))).trans h.2.2⟩
/-- What settingOf answers. -/
def SetE (e : Ending) (w w' : World) (s : Int) (n : Nat) (M : Int × Int × Int → Option Nat) : Prop := ∃ b, e = .returned (.agg #[.int .i64 s, .map (some b)]) ∧ w.heap.size ≤ b ∧ MapE w' b n M
set_option maxHeartbeats 16000000 in
set_option maxRecDepth 100000 in
theorem setting_any (s : Int) (n cq cm : Nat) (oq om : Option Addr) (Q : Nat → Int × Int × Int) (A : Nat → Nat) (hn : n ≤ 1000000) (hQ : ∀ i, i < n → rngQ (Q i)) (w : World) (hq : Qs w (.slice oq n cq) n Q) (ha : Es w (.slice om n cm) n A) :
    Calls Tryz.prog 92 #[.int .i64 s, .slice oq n cq, .slice om n cm] w fun e w' => SetE e w w' s n (fsM Q A n) ∧ Below w.heap.size w w' := by
  obtain ⟨B0, eB0⟩ : ∃ x, x = w.heap.size := ⟨_, rfl⟩
  obtain ⟨w1, ew1⟩ : ∃ x : World, x = w.alloc (.cells #[.int .i64 0, .map none] 159) := ⟨_, rfl⟩
  have hb1 : Below w.heap.size w w1 := by rw [ew1]; exact bAlloc (Below.refl _ _) _
  have s1 : w1.heap.size = w.heap.size + 1 := by rw [ew1]; simp
  obtain ⟨B1, eB1⟩ : ∃ x, x = w.heap.size + 1 := ⟨_, rfl⟩
  obtain ⟨w2, ew2⟩ : ∃ x : World, x = w1.alloc (.map #[] 0) := ⟨_, rfl⟩
  have hb2 : Below w1.heap.size w1 w2 := by rw [ew2]; exact bAlloc (Below.refl _ _) _
  have s2 : w2.heap.size = w.heap.size + 1 + 1 := by rw [ew2, ← s1]; simp
  have hmm : ∀ m : Nat, (Instr.makeMap 157 (some (.int .i64 (m : Int)))).run Tryz.prog w1 = .ok (.map (some B1)) w2 := fun m => by rw [makeMapH, ew2, s1, eB1]
  obtain ⟨B2, eB2⟩ : ∃ x, x = w.heap.size + 1 + 1 := ⟨_, rfl⟩
  obtain ⟨w3, ew3⟩ : ∃ x : World, x = w2.alloc (.cells #[.int .i64 s, .map (some B1)] 159) := ⟨_, rfl⟩
  have hb3 : Below w2.heap.size w2 w3 := by rw [ew3]; exact bAlloc (Below.refl _ _) _
  have hSW : SetW w3 s B0 B1 B2 0 (fsM Q A 0) := by
    have h0 : w1.heap[B0]? = some (.cells #[.int .i64 0, .map none] 159) := by rw [ew1, eB0]; show (w.heap.push _)[w.heap.size]? = _; simp
    have h2 : w3.heap[B2]? = some (.cells #[.int .i64 s, .map (some B1)] 159) := by rw [ew3, eB2, ← s2]; show (w2.heap.push _)[w2.heap.size]? = _; simp
    have h1 : MapE w2 B1 0 (fsM Q A 0) := by
      have : fsM Q A 0 = fun _ => none := rfl
      rw [this, ew2, eB1, ← s1]; exact MapE.made w1
    have h02 := (hb2.block B0 (Array.getElem?_eq_some_iff.1 h0).1).trans h0
    exact ⟨h1.below hb3, (hb3.block B0 (Array.getElem?_eq_some_iff.1 h02).1).trans h02, h2⟩
  have ha3 : w2.alloc (.cells #[.int .i64 s, .map (some B1)] 159) = w3 := ew3.symm
  have hz2 : w2.heap.size = B2 := s2.trans eB2.symm
  have HSW : Hid (SetW w3 s B0 B1 B2 0 (fsM Q A 0)) := hSW
  have HB3 : Hid (Below w.heap.size w w3) := bStep hb1 (bStep hb2 hb3)
  have HNE : Hid (B0 ≠ B1 ∧ B2 ≠ B1 ∧ w.heap.size ≤ B1 ∧ B0 = w.heap.size ∧ B2 = w.heap.size + 1 + 1) := ⟨by omega, by omega, by omega, eB0, eB2⟩
  have HQR : Hid (∀ i, i < n → rngQ (Q i)) := hQ
  have HQW : Hid (∀ w', Below w.heap.size w w' → Qs w' (.slice oq n cq) n Q) := fun w' h => hq.below h
  have HAW : Hid (∀ w', Below w.heap.size w w' → Es w' (.slice om n cm) n A) := fun w' h => ha.below h
  clear hb1 hb2 hb3 s1 s2 hSW eB1 eB2 ew2 ew3 hQ hq ha
  go_enter Tryz.func92, Tryz.ntmps92
  go_upto_region 1 with fail
  rw [← ew1, ← eB0]
  clear ew1 eB0
  go_wp2
  clear hmm ha3 hz2
  go_loopw [17] (fun iv wr => ∃ k : Nat, iv = .int .i64 (k : Int) ∧ k ≤ n ∧ Below w.heap.size w wr ∧ Hid (SetW wr s B0 B1 B2 k (fsM Q A k))) (fun iv _ => n - (intOf iv).toNat)
  case atStart => exact ⟨0, rfl, Nat.zero_le _, HB3.out, HSW⟩
  case round =>
    obtain ⟨k, rfl, hk, hbr, HS⟩ := hrel
    clear HSW HB3
    by_cases hlt : k < n
    · have hki : (k : Int) < (n : Int) := by omega
      have hk0 : (0 : Int) ≤ (k : Int) := by omega
      rcases HQW.out wr hbr with ⟨_, h0⟩ | ⟨ab, ao, c', hv, _, _, lab, hcell⟩
      · omega
      cases hv
      obtain ⟨kd, cl, rt, hE⟩ : ∃ x y z, Q k = (x, y, z) := ⟨_, _, _, rfl⟩
      have t0 := hcell k hlt 0 (by decide); have t1 := hcell k hlt 1 (by decide); have t2 := hcell k hlt 2 (by decide)
      dsimp only at t0 t1 t2
      rw [hE] at t0 t1 t2
      rw [show qC (kd, cl, rt) 0 = .int .i64 kd from rfl, Nat.add_zero] at t0
      rw [show qC (kd, cl, rt) 1 = .int .i64 cl from rfl] at t1
      rw [show qC (kd, cl, rt) 2 = .int .i64 rt from rfl] at t2
      have HE : Hid (Q k = (kd, cl, rt)) := hE
      have HQK : Hid (rngQ (kd, cl, rt)) := by have h := HQR.out k hlt; rw [hE] at h; exact h
      obtain ⟨a1, ea1⟩ : ∃ x : World, x = wr.alloc (.cells #[.int .i64 kd, .int .i64 cl, .int .i64 rt] 118) := ⟨_, rfl⟩
      have hA1 : Below wr.heap.size wr a1 := by rw [ea1]; exact bAlloc (Below.refl _ _) _
      obtain ⟨N9, eN9⟩ : ∃ x, x = wr.heap.size := ⟨_, rfl⟩
      have g9 : a1.heap[N9]? = some (.cells #[.int .i64 kd, .int .i64 cl, .int .i64 rt] 118) := by rw [ea1, eN9]; show (wr.heap.push _)[wr.heap.size]? = _; simp
      have ha1 : wr.alloc (.cells #[.int .i64 kd, .int .i64 cl, .int .i64 rt] 118) = a1 := ea1.symm
      have hn9 : wr.heap.size = N9 := eN9.symm
      have HS1 : Hid (SetW a1 s B0 B1 B2 k (fsM Q A k)) := HS.out.below hA1
      have y0 : a1.cell? ⟨N9, 0, none⟩ = some (.int .i64 kd) := cell_of_block g9 0
      have y1 : a1.cell? ⟨N9, 1, none⟩ = some (.int .i64 cl) := cell_of_block g9 1
      have y2 : a1.cell? ⟨N9, 2, none⟩ = some (.int .i64 rt) := cell_of_block g9 2
      have x0 : a1.cell? ⟨B2, 0, none⟩ = some (.int .i64 s) := cell_of_block HS1.out.2.2 0
      have x1 : a1.cell? ⟨B2, 1, none⟩ = some (.map (some B1)) := cell_of_block HS1.out.2.2 1
      have HG9 : Hid (a1.heap[N9]? = some (.cells #[.int .i64 kd, .int .i64 cl, .int .i64 rt] 118)) := g9
      have HB1 : Hid (Below w.heap.size w a1) := bStep hbr hA1
      have HN9 : Hid (N9 ≠ B1) := by show N9 ≠ B1; have h1 := HS.out.1.lt; omega
      have HHA : Hid (Calls _ _ _ _ _) := has_any s B1 k (fsM Q A k) (kd, cl, rt) HQK.out a1 HS1.out.1
      obtain ⟨bv, ebv⟩ : ∃ v, v = (fsM Q A k (kd, cl, rt)).isSome := ⟨_, rfl⟩
      rw [← ebv] at HHA
      have HBV : Hid (bv = (fsM Q A k (Q k)).isSome) := by show bv = _; rw [hE]; exact ebv
      clear hcell hE lab ea1 eN9 g9 hA1 ebv hbr HS
      go_upto_region 5 with fail
      clear t0 t1 t2 ha1 hn9
      go_wp2_with fail
      refine Calls.mono HHA.out ?_
      rintro e a2 ⟨rfl, hA2⟩
      have HS2 : Hid (SetW a2 s B0 B1 B2 k (fsM Q A k)) := HS1.out.below hA2
      have HB2 : Hid (Below w.heap.size w a2) := bStep HB1.out hA2
      have HG2 : Hid (a2.heap[N9]? = some (.cells #[.int .i64 kd, .int .i64 cl, .int .i64 rt] 118)) := (hA2.block N9 (Array.getElem?_eq_some_iff.1 HG9.out).1).trans HG9.out
      clear hA2 y0 y1 y2 x0 x1 HHA HS1 HB1 HG9
      cases bv
      · obtain ⟨x, ex⟩ : ∃ x, x = A k := ⟨_, rfl⟩
        rcases HAW.out a2 HB2.out with ⟨_, h0⟩ | ⟨eb, eo, c', hv, _, _, leb, hcell⟩
        · omega
        · cases hv
          have HFA : Hid (∀ w', Below a2.heap.size a2 w' → w'.cell? ⟨B2, 1, none⟩ = some (.map (some B1)) ∧ w'.cell? ⟨N9, 0, none⟩ = some (.int .i64 kd) ∧ w'.cell? ⟨N9, 1, none⟩ = some (.int .i64 cl) ∧ w'.cell? ⟨N9, 2, none⟩ = some (.int .i64 rt) ∧ w'.cell? ⟨eb, eo + k * 4, none⟩ = some (.int .u64 ((limb 0 x : Nat) : Int)) ∧ w'.cell? ⟨eb, eo + k * 4 + 1, none⟩ = some (.int .u64 ((limb 1 x : Nat) : Int)) ∧ w'.cell? ⟨eb, eo + k * 4 + 2, none⟩ = some (.int .u64 ((limb 2 x : Nat) : Int)) ∧ w'.cell? ⟨eb, eo + k * 4 + 3, none⟩ = some (.int .u64 ((limb 3 x : Nat) : Int)) ∧ True) := fun w' h => by
            have g2 := (h.block B2 (Array.getElem?_eq_some_iff.1 HS2.out.2.2).1).trans HS2.out.2.2
            have g9 := (h.block N9 (Array.getElem?_eq_some_iff.1 HG2.out).1).trans HG2.out
            have c0 := hcell k hlt 0 (by decide); have c1 := hcell k hlt 1 (by decide); have c2 := hcell k hlt 2 (by decide); have c3 := hcell k hlt 3 (by decide)
            rw [← ex] at c0 c1 c2 c3
            rw [Nat.add_zero] at c0
            exact ⟨cell_of_block g2 1, cell_of_block g9 0, cell_of_block g9 1, cell_of_block g9 2, (h.cell (p := ⟨eb, eo + k * 4, none⟩) leb).trans c0, (h.cell (p := ⟨eb, eo + k * 4 + 1, none⟩) leb).trans c1, (h.cell (p := ⟨eb, eo + k * 4 + 2, none⟩) leb).trans c2, (h.cell (p := ⟨eb, eo + k * 4 + 3, none⟩) leb).trans c3, trivial⟩
          have HEX : Hid (x = A k) := ex
          clear hcell leb ex
          go_upto_region 6 with fail
          refine wp_region_Z (fun w' => Below a2.heap.size a2 w') 7 (by kernel_rfl) ?_
          obtain ⟨wD, hD⟩ : ∃ z : World, z = a2.drew := ⟨_, rfl⟩
          rw [← hD]
          have hp0 : Below a2.heap.size a2 wD := by rw [hD]; exact (Below.refl _ _).drew
          clear hD
          refine zt 0 26 (.pointer (some ⟨B2, 1, none⟩)) rfl rfl (fun w hSw => by go_simp) hp0 ?_
          simp only [Act.put, List.setIfInBounds_toArray]
          dsimp only [List.set_cons_zero, List.set_cons_succ]
          refine zt 1 27 (.map (some B1)) rfl rfl (fun w hSw => by obtain ⟨q0, q1, q2, q3, q4, q5, q6, q7, q8⟩ := HFA.out w hSw; clear hSw; go_simp) hp0 ?_
          simp only [Act.put, List.setIfInBounds_toArray]
          dsimp only [List.set_cons_zero, List.set_cons_succ]
          refine zt 2 28 (.agg #[.int .i64 kd, .int .i64 cl, .int .i64 rt]) rfl rfl (fun w hSw => by obtain ⟨q0, q1, q2, q3, q4, q5, q6, q7, q8⟩ := HFA.out w hSw; clear hSw; go_simp) hp0 ?_
          simp only [Act.put, List.setIfInBounds_toArray]
          dsimp only [List.set_cons_zero, List.set_cons_succ]
          refine zt 3 29 (.slice (some ⟨eb, eo, none⟩) n cm) rfl rfl (fun w hSw => by go_simp) hp0 ?_
          simp only [Act.put, List.setIfInBounds_toArray]
          dsimp only [List.set_cons_zero, List.set_cons_succ]
          refine zt 4 30 (.int .i64 (k : Int)) rfl rfl (fun w hSw => by go_simp) hp0 ?_
          simp only [Act.put, List.setIfInBounds_toArray]
          dsimp only [List.set_cons_zero, List.set_cons_succ]
          refine zt 5 31 (.pointer (some ⟨eb, eo + k * 4, none⟩)) rfl rfl (fun w hSw => by go_simp) hp0 ?_
          simp only [Act.put, List.setIfInBounds_toArray]
          dsimp only [List.set_cons_zero, List.set_cons_succ]
          refine zt 6 32 (.agg #[.int .u64 ((limb 0 (x) : Nat) : Int), .int .u64 ((limb 1 (x) : Nat) : Int), .int .u64 ((limb 2 (x) : Nat) : Int), .int .u64 ((limb 3 (x) : Nat) : Int)]) rfl rfl (fun w hSw => by obtain ⟨q0, q1, q2, q3, q4, q5, q6, q7, q8⟩ := HFA.out w hSw; clear hSw; go_simp) hp0 ?_
          simp only [Act.put, List.setIfInBounds_toArray]
          dsimp only [List.set_cons_zero, List.set_cons_succ]
          refine wpZ_one (i := 7) (by kernel_rfl) rfl (fun K hK => ?_)
          obtain ⟨a5, hr5, hm5, hg5⟩ := (HS2.out.below hp0).1.put (by omega) (kd, cl, rt) HQK.out x
          dsimp only at hr5
          have HS5 : Hid (SetW a5 s B0 B1 B2 (k + 1) (fsM Q A (k + 1))) := by
            rw [fsM_new HBV.out.symm, HE.out, ← HEX.out]
            exact (HS2.out.below hp0).put hm5 hg5 HNE.out.1 HNE.out.2.1
          have HB5 : Hid (Below w.heap.size w a5) := (bStep HB2.out hp0).grown hg5 (bStep HB2.out hp0).size (fun j hj => by cases hj; exact HNE.out.2.2.1)
          clear hm5 hg5 hp0
          go_simp
          refine hK.out _ _ (fun h => absurd rfl h) ?_
          clear hK K hr5
          refine wpZ_done (by kernel_rfl) ?_ _
          go_wp2
          go_roundw
          case measure => simp [intOf]; omega
          case rel => exact ⟨k + 1, by go_num, hlt, HB5.out, HS5⟩
      · have HS5 : Hid (SetW a2 s B0 B1 B2 (k + 1) (fsM Q A (k + 1))) := by
          rw [fsM_old HBV.out.symm]
          exact ⟨HS2.out.1.mono (by omega), HS2.out.2⟩
        go_wp2
        go_roundw
        case measure => simp [intOf]; omega
        case rel => exact ⟨k + 1, by go_num, hlt, HB2.out, HS5⟩
    · have hki : ¬ (k : Int) < (n : Int) := by omega
      have ek : n = k := by omega
      subst ek
      have x0 : wr.cell? ⟨B2, 0, none⟩ = some (.int .i64 s) := cell_of_block HS.out.2.2 0
      have x1 : wr.cell? ⟨B2, 1, none⟩ = some (.map (some B1)) := cell_of_block HS.out.2.2 1
      have y0 : wr.cell? ⟨B0, 0, none⟩ = some (.int .i64 0) := cell_of_block HS.out.2.1 0
      have y1 : wr.cell? ⟨B0, 1, none⟩ = some (.map none) := cell_of_block HS.out.2.1 1
      have fz : ∀ o, wr.frozen? ⟨B0, o, none⟩ = false := fun o => by simp [World.frozen?, HS.out.2.1]
      obtain ⟨w9, ew9⟩ : ∃ x : World, x = (wr.setCell ⟨B0, 0, none⟩ (.int .i64 s)).setCell ⟨B0, 1, none⟩ (.map (some B1)) := ⟨_, rfl⟩
      have hk1 : KS (fun x => x = B0) wr w9 := by rw [ew9]; exact (KS.setCell (S := fun x => x = B0) wr ⟨B0, 0, none⟩ _ rfl).trans (KS.setCell (S := fun x => x = B0) _ ⟨B0, 1, none⟩ _ rfl)
      have HB9 : Hid (Below w.heap.size w w9) := hbr.trans (hk1.below hbr.size (fun b hb => by have := HNE.out; omega))
      have HM9 : Hid (MapE w9 B1 n (fsM Q A n)) := HS.out.1.keep (hk1.block HS.out.1.lt (fun e => HNE.out.1 e.symm))
      have g9 : w9.heap[B0]? = some (.cells #[.int .i64 s, .map (some B1)] 159) := by rw [ew9]; simp [World.setCell, Array.getElem?_modify, HS.out.2.1]
      have v0 : w9.cell? ⟨B0, 0, none⟩ = some (.int .i64 s) := cell_of_block g9 0
      have v1 : w9.cell? ⟨B0, 1, none⟩ = some (.map (some B1)) := cell_of_block g9 1
      clear hk1 g9 hbr HS
      go_wp2
      rw [← ew9]
      clear ew9 x0 x1 y0 y1 fz
      exact bodyPost_ret (v := .agg #[.int .i64 s, .map (some B1)]) (by simp [results, Tryz.results92, go_sem, v0, v1]) rfl ⟨⟨B1, rfl, HNE.out.2.2.1, HM9.out⟩, HB9.out⟩
end Go.Proofs.YtgldibfpidmfhaaGreatDoor

