/- product.element, product.Check. -/
import Derived.Test.YtfdddpndjmookaaGreatDoorMQ1
import Derived.Test.YtfdddpndjmookaaGreatDoorBE
import Derived.Lib.SmallJoins
namespace Go.Proofs.YtfdddpndjmookaaGreatDoor
open Go.RowKit

set_option maxHeartbeats 2000000 in
set_option maxRecDepth 20000 in
/-- product.element. -/
theorem pel_any {si : Int} {el : Nat → Nat} {ad mu : Nat → Nat → Nat} (hF : Fld si el ad mu) (v : Nat) (hv : v < 115792089237316195423570985008687907853269984665640564039457584007913129639936) (w : World) (hg : Glob w) :
    Calls Tryz.prog 42 #[.int .i64 si, .agg #[.int .u64 ((limb 0 (v) : Nat) : Int), .int .u64 ((limb 1 (v) : Nat) : Int), .int .u64 ((limb 2 (v) : Nat) : Int), .int .u64 ((limb 3 (v) : Nat) : Int)]] w fun e w' => e = .returned (.agg #[.int .u64 ((limb 0 (el v) : Nat) : Int), .int .u64 ((limb 1 (el v) : Nat) : Int), .int .u64 ((limb 2 (el v) : Nat) : Int), .int .u64 ((limb 3 (el v) : Nat) : Int)]) ∧ Below w.heap.size w w' := by
  have HAD : Hid (∀ w, Glob w → _) := fun w hg => hF.2.2.2.1 v hv w hg
  obtain ⟨Z, eZ⟩ : ∃ z, z = el v := ⟨_, rfl⟩
  rw [← eZ] at HAD ⊢
  have HG : Hid (Glob w) := hg
  clear hF hv hg eZ
  go_enter Tryz.func42, Tryz.ntmps42
  go_upto_region 1 with fail
  have hs1 : (w.alloc (.cells #[.int .u64 ((limb 0 (v) : Nat) : Int), .int .u64 ((limb 1 (v) : Nat) : Int), .int .u64 ((limb 2 (v) : Nat) : Int), .int .u64 ((limb 3 (v) : Nat) : Int)] 25)).heap.size = w.heap.size + 1 := Array.size_push ..
  obtain ⟨N3, e0⟩ : ∃ z, z = w.heap.size := ⟨_, rfl⟩
  obtain ⟨N4, e1⟩ : ∃ z, z = N3 + 1 := ⟨_, rfl⟩
  obtain ⟨w1, hw1⟩ : ∃ z : World, z = (w.alloc (.cells #[.int .u64 ((limb 0 (v) : Nat) : Int), .int .u64 ((limb 1 (v) : Nat) : Int), .int .u64 ((limb 2 (v) : Nat) : Int), .int .u64 ((limb 3 (v) : Nat) : Int)] 25)).alloc (.cells #[.int .u64 0, .int .u64 0, .int .u64 0, .int .u64 0] 25) := ⟨_, rfl⟩
  have b3 : Blk w1 25 N3 (fun i => limb i v) := by rw [hw1]; exact (Blk.newAt _ _ _ (fun i => limb i v) e0).alloc _
  have b4 : Blk w1 25 N4 (fun _ => 0) := by rw [hw1]; exact Blk.newAt _ _ _ (fun _ => 0) (by rw [e1, e0, hs1])
  have hb1 : Below w.heap.size w w1 := by rw [hw1]; exact bAlloc (bAlloc (Below.refl _ _) _) _
  rw [← hw1]
  try rw [← e0]
  try rw [← e1]
  have l3 : w.heap.size ≤ N3 := by omega
  have l4 : w.heap.size ≤ N4 := by omega
  have n3_4 : N3 ≠ N4 := by omega
  clear hw1 e0 e1 hs1
  have HG1 : Hid (Glob w1) := HG.out.below hb1
  have q3 := b3.cell
  go_wp2_with fail
  refine (HAD.out w1 HG1.out).mono ?_
  rintro e w2 ⟨rfl, hbx⟩
  have c4' := b4.belowAll hbx
  have hb2 := bStep hb1 hbx
  clear q3 b3 b4 hb1 hbx HAD HG1
  have c4 := c4'.cell; have f4 := c4'.frozen
  obtain ⟨w5, hw5, s4, hk5⟩ := c4'.put4 Z
  have hbe := bKept hb2 l4 hk5
  go_wp2
  have r0 := s4.cell 0 (by decide); have r1 := s4.cell 1 (by decide); have r2 := s4.cell 2 (by decide); have r3 := s4.cell 3 (by decide)
  refine bodyPost_ret (v := .agg #[.int .u64 ((limb 0 (Z) : Nat) : Int), .int .u64 ((limb 1 (Z) : Nat) : Int), .int .u64 ((limb 2 (Z) : Nat) : Int), .int .u64 ((limb 3 (Z) : Nat) : Int)]) (by simp [results, Tryz.results42, go_sem, r0, r1, r2, r3]) rfl ⟨rfl, ?_⟩
  exact hbe
/-- product.Check. -/
theorem pck_out (si k : Int) (hs : si < 0 ∨ 4 ≤ si) (w : World) :
    Calls Tryz.prog 20 #[.int .i64 si, .int .i64 k] w fun e w' => e = .returned (.int .i64 20) ∧ Below w.heap.size w w' := by
  have HM := fun w => fModulus_out si hs w
  clear hs
  go_enter Tryz.func20, Tryz.ntmps20
  go_wp2_with fail
  refine (HM w).mono ?_
  rintro e w1 ⟨rfl, hb⟩
  go_wp2
  go_ret
  exact ⟨rfl, bAlloc hb _⟩
theorem pck_in (s : Nat) (k : Int) (hs : s < 4) (w : World) (hg : Glob w) :
    Calls Tryz.prog 20 #[.int .i64 (s : Int), .int .i64 k] w fun e w' => e = .returned (.int .i64 (if k < 3 ∨ 5 < k then 60 else 0)) ∧ Below w.heap.size w w' := by
  have HM : Hid (∀ w, Glob w → _) := fun w hg => fModulus_any s hs w hg
  have HG : Hid (Glob w) := hg
  obtain ⟨M, eM⟩ : ∃ z, z = modN s := ⟨_, rfl⟩
  rw [← eM] at HM
  obtain ⟨si, esi⟩ : ∃ z : Int, z = (s : Int) := ⟨_, rfl⟩
  rw [← esi] at HM ⊢
  clear eM esi hs hg
  by_cases h3 : k < 3
  · rw [if_pos (Or.inl h3)]
    go_enter Tryz.func20, Tryz.ntmps20
    go_wp2_with fail
    refine (HM.out w HG.out).mono ?_
    rintro e w1 ⟨rfl, hb⟩
    clear HM HG
    go_wp2
    go_ret
    exact ⟨rfl, bAlloc hb _⟩
  by_cases h5 : (5 : Int) < k
  · rw [if_pos (Or.inr h5)]
    go_enter Tryz.func20, Tryz.ntmps20
    go_wp2_with fail
    refine (HM.out w HG.out).mono ?_
    rintro e w1 ⟨rfl, hb⟩
    clear HM HG
    go_wp2
    go_ret
    exact ⟨rfl, bAlloc hb _⟩
  · rw [if_neg (by omega)]
    go_enter Tryz.func20, Tryz.ntmps20
    go_wp2_with fail
    refine (HM.out w HG.out).mono ?_
    rintro e w1 ⟨rfl, hb⟩
    clear HM HG
    go_wp2
    go_ret
    exact ⟨rfl, bAlloc hb _⟩
end Go.Proofs.YtfdddpndjmookaaGreatDoor

/- A purse's Next, in lookup's seat (out of TC1). -/
namespace Go.Proofs.YtfdddpndjmookaaGreatDoor
open Go.RowKit

/-- An element is written into a list. -/
theorem Es.kept {w w' : World} {v : Value} {n g : Nat} {f : Nat → Nat} (h : Es w v n f) (hg : ∀ b o m c, v = .slice (some ⟨b, o, none⟩) m c → b ≠ g) (hk : Kept g w w') : Es w' v n f := by
  rcases h with hn | ⟨b, o, c, hv, h1, h2, hb, hc⟩
  · exact Or.inl hn
  · refine Or.inr ⟨b, o, c, hv, h1, h2, Nat.lt_of_lt_of_le hb hk.size, fun i hi j hj => ?_⟩
    have e := hk.block b hb (hg b o _ c hv)
    have q := hc i hi j hj
    rw [← q]
    simp only [World.cell?, e]
theorem own_freshE {w : World} {base n : Nat} {v : Value} {xs : List Value} (h : w.ownsRow base 25 4 v n xs) : ∀ b o m c, v = .slice (some ⟨b, o, none⟩) m c → base ≤ b ∧ b < w.heap.size := fun b o m c e => by
  obtain ⟨_, h⟩ := h
  rcases h with ⟨rfl, _⟩ | ⟨g, c', cur, rfl, hb, hg, _⟩
  · cases e
  · cases e
    exact ⟨hb, (Array.getElem?_eq_some_iff.1 hg).1⟩
set_option maxHeartbeats 2000000 in
set_option maxRecDepth 20000 in
theorem cloneE_some (n cn a oa : Nat) (f : Nat → Nat) (hn : n ≤ 4398046510976) (w : World) (ha : a < w.heap.size) (hc : ∀ i, i < n → ∀ j, j < 4 → w.cell? ⟨a, oa + i * 4 + j, none⟩ = some (.int .u64 ((limb j (f i) : Nat) : Int))) :
    Calls Tryz.prog 19 #[.slice (some ⟨a, oa, none⟩) n cn] w fun e w' => ∃ v, e = .returned v ∧ w'.ownsRow w.heap.size 25 4 v n (els f n) ∧ Below w.heap.size w w' := by
  obtain ⟨i0, hi, hz0, hz1, hz2⟩ := elemInfo
  have HI := (show Hid _ from hi); have HZ := (show Hid _ from And.intro hz0 (And.intro hz1 hz2)); clear hi hz0 hz1 hz2
  have HC := (show Hid _ from hc); clear hc
  have hown0 : (w.alloc (.cells #[] 25)).ownsRow w.heap.size 25 4 (.slice (some ⟨w.heap.size, 0, none⟩) 0 0) 0 [] :=
    ⟨rfl, Or.inr ⟨w.heap.size, 0, #[], rfl, Nat.le_refl _, new_blockE _ _, Nat.le_refl _, by decide, rfl, rfl⟩⟩
  have HO : Hid ((w.alloc (.cells #[] 25)).ownsRow w.heap.size 25 4 (.slice (some ⟨w.heap.size, 0, none⟩) 0 0) 0 []) := hown0
  clear hown0
  have EQ : (binOp .eql 22 (.slice (some ⟨a, oa, none⟩) n cn) (.slice none 0 0)).run Tryz.prog w = .ok (.bool false) w := by
    rw [Lib.run_eql_slice_nil w 22 25 (some ⟨a, oa, none⟩) n cn 0 0 Tryz.underlying22]; rfl
  go_enter Tryz.func19, Tryz.ntmps19
  go_wp2_with (first
    | (at_builtin; refine wpList_append_own _ rfl _ _ 22 rfl w.heap.size 25 i0 (.agg #[.int .u64 0, .int .u64 0, .int .u64 0, .int .u64 0]) 4 32 Tryz.underlying22 HI.out HZ.out.1 HZ.out.2.1 HZ.out.2.2 rfl (by decide) _ _ _ rfl HO.out ⟨a, oa, none⟩ n cn (els f n) rfl ?c0 ?c1 ?c2 ?c3 ?c4 ?c5 ?_)
    | go_in)
  case c0 => exact els_len f n
  case c1 =>
    intro j u hj
    have hjn : j < n * 4 := by
      rcases Nat.lt_or_ge j (n * 4) with h | h
      · exact h
      · rw [List.getElem?_eq_none (by rw [els_len]; exact h)] at hj; cases hj
    have e := els_get f n (j / 4) (j % 4) (by omega) (by omega)
    rw [show j / 4 * 4 + j % 4 = j from by omega, hj] at e
    cases e
    have hb : Below w.heap.size w (w.alloc (.cells #[] 25)) := (Below.refl _ _).alloc (Nat.le_refl _) _
    have hadd : (⟨a, oa, none⟩ : Addr).add j = ⟨a, oa + j / 4 * 4 + j % 4, none⟩ := by
      have e2 : oa + j / 4 * 4 + j % 4 = oa + j := by omega
      rw [e2]; unfold Addr.add; split <;> simp_all
    rw [hadd, hb.cell (p := ⟨a, oa + j / 4 * 4 + j % 4, none⟩) ha]
    exact HC.out (j / 4) (by omega) (j % 4) (by omega)
  case c2 => intro u hu; unfold els at hu; obtain ⟨i, _, rfl⟩ := List.mem_map.mp hu; rfl
  case c3 => unfold maxLen; omega
  case c4 => omega
  case c5 => simp
  intro v' w2 hown' hgrow _
  go_wp2
  go_ret
  refine ⟨_, rfl, ?_, ?_⟩
  · exact hown'
  · exact ((Below.refl _ w).alloc (Nat.le_refl _) _).grown hgrow (by simp) (fun j hj => own_block_geE HO.out hj)
set_option maxHeartbeats 2000000 in
theorem cloneE_nil (w : World) :
    Calls Tryz.prog 19 #[.slice none 0 0] w fun e w' => ∃ v, e = .returned v ∧ w'.ownsRow w.heap.size 25 4 v 0 [] ∧ Below w.heap.size w w' := by
  have EQ : (binOp .eql 22 (.slice none 0 0) (.slice none 0 0)).run Tryz.prog w = .ok (.bool true) w := by
    rw [Lib.run_eql_slice_nil w 22 25 none 0 0 0 0 Tryz.underlying22]; rfl
  go_enter Tryz.func19, Tryz.ntmps19
  go_wp2
  go_ret
  exact ⟨_, rfl, ⟨rfl, Or.inl ⟨rfl, rfl⟩⟩, Below.refl _ _⟩
/-- slices.Clone of elements. -/
theorem cloneE_any (n : Nat) (v : Value) (f : Nat → Nat) (hn : n ≤ 4398046510976) (w : World) (h : Es w v n f) :
    Calls Tryz.prog 19 #[v] w fun e w' => ∃ v', e = .returned v' ∧ w'.ownsRow w.heap.size 25 4 v' n (els f n) ∧ Below w.heap.size w w' := by
  rcases h with ⟨rfl, rfl⟩ | ⟨b, o, c, rfl, _, _, hb, hc⟩
  · exact cloneE_nil w
  · exact cloneE_some n c b o f hn w hb hc
set_option maxHeartbeats 2000000 in
/-- tape.Purse. -/
theorem purse_any (n : Nat) (v : Value) (f : Nat → Nat) (hn : n ≤ 4398046510976) (w : World) (h : Es w v n f) :
    Calls Tryz.prog 7 #[v] w fun e w' => (∃ (b n' c : Nat) (oa : Option Addr), e = .returned (.pointer (some ⟨b, 0, none⟩)) ∧ w.heap.size ≤ b ∧ n' = n ∧ One1 w' 55 b (.slice oa n' c) ∧ Es w' (.slice oa n' c) n' f ∧ Hid (∀ g o, oa = some ⟨g, o, none⟩ → w.heap.size ≤ g ∧ g ≠ b)) ∧ Below w.heap.size w w' := by
  obtain ⟨ov, cv, rfl⟩ := h.shape
  have HE : Hid (Es w (.slice ov n cv) n f) := h
  clear h
  go_enter Tryz.func7, Tryz.ntmps7
  go_wp2_with fail
  refine (cloneE_any n _ f hn w HE.out).mono ?_
  rintro e w1 ⟨u, rfl, ho, hb⟩
  obtain ⟨oa, c, rfl⟩ := (own_Es ho).shape
  have HF : Hid (∀ g o, oa = some ⟨g, o, none⟩ → w.heap.size ≤ g ∧ g < w1.heap.size) := fun g o e => own_freshE ho g o n c (by rw [e])
  have HE1 : Hid (Es w1 (.slice oa n c) n f) := own_Es ho
  clear ho
  have hb2 : Below w1.heap.size w1 (w1.alloc (.cells #[.slice oa n c] 55)) := bAlloc (Below.refl _ _) _
  go_wp2
  go_ret
  refine ⟨⟨w1.heap.size, n, c, oa, rfl, hb.size, rfl, One1.new _ _ _, HE1.out.below hb2, fun g o e => ?_⟩, bStep hb hb2⟩
  have := HF.out g o e
  exact ⟨this.1, by omega⟩
set_option maxHeartbeats 2000000 in
/-- Coins.Next, none left. -/
theorem next_none (b cn : Nat) (oa : Option Addr) (w : World) (h : One1 w 55 b (.slice oa 0 cn)) :
    Calls Tryz.prog 57 #[.pointer (some ⟨b, 0, none⟩)] w fun e w' => e = .returned (.tuple #[.agg #[.int .u64 0, .int .u64 0, .int .u64 0, .int .u64 0], .int .i64 81]) ∧ Below w.heap.size w w' := by
  obtain ⟨w0, hw0⟩ : ∃ z : World, z = w.alloc (.cells #[.int .u64 0, .int .u64 0, .int .u64 0, .int .u64 0] 25) := ⟨_, rfl⟩
  have hb0 : Below w.heap.size w w0 := by rw [hw0]; exact bAlloc (Below.refl _ _) _
  have h0 := h.belowAll hb0
  have c0 := h0.cell
  have br : Blk w0 25 w.heap.size (fun _ => 0) := by rw [hw0]; exact Blk.newAt _ _ _ (fun _ => 0) rfl
  obtain ⟨N2, e2⟩ : ∃ N, N = w.heap.size := ⟨_, rfl⟩
  rw [← e2] at br
  go_enter Tryz.func57, Tryz.ntmps57
  go_upto_region 1 with fail
  rw [← hw0, ← e2]
  have l2 : w.heap.size ≤ N2 := by omega
  clear hw0 e2
  have cr := br.cell; have fr := br.frozen
  obtain ⟨w1, hw1, b1, hk1⟩ := br.put4 0
  have hw1' : (((w0.setCell ⟨N2, 0, none⟩ (.int .u64 0)).setCell ⟨N2, 1, none⟩ (.int .u64 0)).setCell ⟨N2, 2, none⟩ (.int .u64 0)).setCell ⟨N2, 3, none⟩ (.int .u64 0) = w1 := by
    have := hw1
    rw [limb_zero, limb_zero, limb_zero, limb_zero] at this
    exact this
  have hb1 := bKept hb0 l2 hk1
  have b1' : Blk w1 25 N2 (fun _ => 0) := b1.congr (fun i _ => (limb_zero i).symm)
  clear hw1 hk1 b1
  have cs := b1'.cell
  go_wp2
  refine bodyPost_ret (v := .tuple #[.agg #[.int .u64 0, .int .u64 0, .int .u64 0, .int .u64 0], .int .i64 81]) (by simp [results, Tryz.results57, go_sem, cs]) rfl ⟨rfl, hb1⟩
/-- The rest lies where the list lay. -/
def Aprt (oa' oa : Option Addr) (b : Nat) : Prop := ∀ g o, oa' = some ⟨g, o, none⟩ → g ≠ b ∧ ∃ o', oa = some ⟨g, o', none⟩
set_option maxHeartbeats 4000000 in
set_option maxRecDepth 20000 in
/-- Coins.Next, one at least left. -/
theorem next_some (b n cn : Nat) (oa : Option Addr) (f : Nat → Nat) (hn : 0 < n) (w : World) (h : One1 w 55 b (.slice oa n cn)) (hE : Es w (.slice oa n cn) n f) (hne : ∀ g o, oa = some ⟨g, o, none⟩ → g ≠ b) :
    Calls Tryz.prog 57 #[.pointer (some ⟨b, 0, none⟩)] w fun e w' => (e = .returned (.tuple #[.agg #[.int .u64 ((limb 0 (f 0) : Nat) : Int), .int .u64 ((limb 1 (f 0) : Nat) : Int), .int .u64 ((limb 2 (f 0) : Nat) : Int), .int .u64 ((limb 3 (f 0) : Nat) : Int)], .int .i64 0]) ∧ ∃ oa', One1 w' 55 b (.slice oa' (n - 1) (cn - 1)) ∧ Es w' (.slice oa' (n - 1) (cn - 1)) (n - 1) (fun i => f (i + 1)) ∧ Aprt oa' oa b) ∧ Kept b w w' := by
  have HE : Hid (Es w (.slice oa n cn) n f) := hE
  rcases hE with ⟨hcon, h0⟩ | ⟨ab, ao, c', hv, hnc, hcm, lab, hcell⟩
  · omega
  cases hv
  have hab : ab ≠ b := hne ab ao rfl
  obtain ⟨x, ex⟩ : ∃ x, x = f 0 := ⟨_, rfl⟩
  have d0 := hcell 0 hn 0 (by decide); have d1 := hcell 0 hn 1 (by decide); have d2 := hcell 0 hn 2 (by decide); have d3 := hcell 0 hn 3 (by decide)
  rw [← ex] at d0 d1 d2 d3
  simp only [Nat.zero_mul, Nat.add_zero] at d0 d1 d2 d3
  have HX : Hid (x = f 0) := ex
  clear ex
  obtain ⟨w0, hw0⟩ : ∃ z : World, z = w.alloc (.cells #[.int .u64 0, .int .u64 0, .int .u64 0, .int .u64 0] 25) := ⟨_, rfl⟩
  have hb0 : Below w.heap.size w w0 := by rw [hw0]; exact bAlloc (Below.refl _ _) _
  have h0 := h.belowAll hb0
  have br : Blk w0 25 w.heap.size (fun _ => 0) := by rw [hw0]; exact Blk.newAt _ _ _ (fun _ => 0) rfl
  have a0 := (hb0.cell (p := ⟨ab, ao, none⟩) lab).trans d0
  have a1 := (hb0.cell (p := ⟨ab, ao + 1, none⟩) lab).trans d1
  have a2 := (hb0.cell (p := ⟨ab, ao + 2, none⟩) lab).trans d2
  have a3 := (hb0.cell (p := ⟨ab, ao + 3, none⟩) lab).trans d3
  have kb := h.lt
  obtain ⟨N2, e2⟩ : ∃ N, N = w.heap.size := ⟨_, rfl⟩
  rw [← e2] at br
  have hn0 : ¬ (n : Int) = 0 := by omega
  have hn1 : (0 : Int) < (n : Int) := by omega
  have h1n : (1 : Int) ≤ (n : Int) := by omega
  obtain ⟨oA, hoA⟩ : ∃ oA : Option Addr, (if cn = 1 then some ⟨ab, ao, none⟩ else some ⟨ab, ao + 4, none⟩) = oA := ⟨_, rfl⟩
  have c0 := h0.cell
  have HC := (show Hid _ from hcell)
  clear hcell d0 d1 d2 d3
  go_enter Tryz.func57, Tryz.ntmps57
  go_upto_region 1 with fail
  rw [← hw0, ← e2]
  have l2 : w.heap.size ≤ N2 := by omega
  have nb2 : b ≠ N2 := by omega
  clear hw0 e2
  go_upto_region 4 with fail
  obtain ⟨N4, e4⟩ : ∃ N, N = w0.heap.size := ⟨_, rfl⟩
  obtain ⟨w2, hw2⟩ : ∃ z : World, z = w0.alloc (.cells #[.int .u64 ((limb 0 (x) : Nat) : Int), .int .u64 ((limb 1 (x) : Nat) : Int), .int .u64 ((limb 2 (x) : Nat) : Int), .int .u64 ((limb 3 (x) : Nat) : Int)] 25) := ⟨_, rfl⟩
  have b4 : Blk w2 25 N4 (fun i => limb i x) := by rw [hw2, e4]; exact Blk.newAt _ _ _ (fun i => limb i x) rfl
  have hb2 : Below w0.heap.size w0 w2 := by rw [hw2]; exact bAlloc (Below.refl _ _) _
  have h2 := h0.belowAll hb2; have br2 := br.belowAll hb2
  have k2 := br.lt; have k0 := h0.lt
  have n24 : N2 ≠ N4 := by omega
  have nb4 : b ≠ N4 := by omega
  rw [← hw2, ← e4]
  clear hw2 e4 a0 a1 a2 a3 c0 h0 br k2 k0
  have c2 := h2.cell; have f2 := h2.frozen
  obtain ⟨w3, hw3, h3, hk3⟩ := h2.put (.slice oA (n - 1) (cn - 1))
  go_upto_region 5 with fail
  have b43 := b4.kept nb4.symm hk3; have br3 := br2.kept nb2.symm hk3
  clear hw3 c2 f2 h2 b4 br2
  have c4 := b43.cell; have cr := br3.cell; have fr := br3.frozen
  obtain ⟨w4, hw4, b24, hk4⟩ := br3.put4 x
  have cs := b24.cell
  have hK : Kept b w w4 := Kept.own ((Kept.ofBelow b (bStep hb0 hb2)).trans hk3) l2 hk4
  have h4 := h3.kept nb2 hk4
  have HEA : Es w (.slice oA (n - 1) (cn - 1)) (n - 1) (fun i => f (i + 1)) := by
    rw [← hoA]
    by_cases hc1 : cn = 1
    · rw [if_pos hc1]
      exact Or.inr ⟨ab, ao, cn - 1, rfl, by omega, by omega, lab, fun i hi j hj => absurd hi (by omega)⟩
    · rw [if_neg hc1]
      refine Or.inr ⟨ab, ao + 4, cn - 1, rfl, by omega, by omega, lab, fun i hi j hj => ?_⟩
      have := HC.out (i + 1) (by omega) j hj
      rwa [show ao + (i + 1) * 4 + j = ao + 4 + i * 4 + j from by omega] at this
  have HOA : Hid (Aprt oA (some ⟨ab, ao, none⟩) b) := fun g o e => by
    rw [← hoA] at e
    split at e <;> (cases e; exact ⟨hab, ao, rfl⟩)
  have HE4 := (show Hid _ from HEA.kept (fun g o m c e => by cases e; exact (HOA.out g o rfl).1) hK)
  clear HEA hoA hk3 hk4 h3 hb2
  go_wp2
  refine bodyPost_ret (v := .tuple #[.agg #[.int .u64 ((limb 0 (x) : Nat) : Int), .int .u64 ((limb 1 (x) : Nat) : Int), .int .u64 ((limb 2 (x) : Nat) : Int), .int .u64 ((limb 3 (x) : Nat) : Int)], .int .i64 0]) (by simp [results, Tryz.results57, go_sem, cs]) rfl ⟨⟨by rw [HX.out], oA, h4, HE4.out, HOA.out⟩, hK⟩

end Go.Proofs.YtfdddpndjmookaaGreatDoor

/- A purse over calls; product.hide. -/
namespace Go.Proofs.YtfdddpndjmookaaGreatDoor
open Go.RowKit

/-- Nothing below base is changed, but the block b. -/
def KU (base b : Nat) (w w' : World) : Prop := w'.os = w.os ∧ w'.tape = w.tape ∧ w'.output = w.output ∧ w.heap.size ≤ w'.heap.size ∧ ∀ k, k < base → k ≠ b → w'.heap[k]? = w.heap[k]?
theorem KU.refl (base b : Nat) (w : World) : KU base b w w := ⟨rfl, rfl, rfl, Nat.le_refl _, fun _ _ _ => rfl⟩
theorem KU.kept {base b : Nat} {w x y : World} (h : KU base b w x) (hl : base ≤ w.heap.size) (hk : Kept b x y) : KU base b w y :=
  ⟨hk.os.trans h.1, hk.tape.trans h.2.1, hk.output.trans h.2.2.1, Nat.le_trans h.2.2.2.1 hk.size, fun k hb hne => (hk.block k (by have := h.2.2.2.1; omega) hne).trans (h.2.2.2.2 k hb hne)⟩
theorem KU.below {base b : Nat} {w x y : World} (h : KU base b w x) (hk : Below base x y) : KU base b w y :=
  ⟨hk.os.trans h.1, hk.tape.trans h.2.1, hk.output.trans h.2.2.1, Nat.le_trans h.2.2.2.1 hk.size, fun k hb hne => (hk.block k hb).trans (h.2.2.2.2 k hb hne)⟩
theorem KU.glob {base b : Nat} {w w' : World} (h : KU base b w w') (hg : Glob w) (h2 : 3 ≤ base) (hb : 3 ≤ b) : Glob w' :=
  hg.belowM (m := 3) (Nat.le_refl _) ⟨h.1, h.2.1, h.2.2.1, h.2.2.2.1, fun k hl => h.2.2.2.2 k (by omega) (by omega)⟩
/-- A purse at b with m coins left, f. -/
def PurseS (w : World) (base b m : Nat) (f : Nat → Nat) : Prop := ∃ (oa : Option Addr) (cm : Nat), One1 w 55 b (.slice oa m cm) ∧ Es w (.slice oa m cm) m f ∧ b < base ∧ ∀ g o, oa = some ⟨g, o, none⟩ → g ≠ b ∧ g < base
theorem Es.lowB {w w' : World} {base n cn : Nat} {oa : Option Addr} {f : Nat → Nat} (h : Es w (.slice oa n cn) n f) (hl : ∀ g o, oa = some ⟨g, o, none⟩ → g < base) (hb : Below base w w') : Es w' (.slice oa n cn) n f := by
  rcases h with h | ⟨b, o, c, hv, h1, h2, h3, h4⟩
  · exact Or.inl h
  · cases hv
    have hlb := hl b o rfl
    exact Or.inr ⟨b, o, cn, rfl, h1, h2, Nat.lt_of_lt_of_le h3 hb.size, fun i hi j hj => (hb.cell (p := ⟨b, o + i * 4 + j, none⟩) hlb).trans (h4 i hi j hj)⟩
theorem PurseS.below {w w' : World} {base b m : Nat} {f : Nat → Nat} (h : PurseS w base b m f) (hb : Below base w w') : PurseS w' base b m f := by
  obtain ⟨oa, cm, h1, h2, h3, h4⟩ := h
  exact ⟨oa, cm, h1.below hb h3, h2.lowB (fun g o e => (h4 g o e).2) hb, h3, h4⟩
theorem OwnL.keptB {w w' : World} {base b : Nat} {v : Value} {l : List Nat} (h : OwnL w base v l) (hb : b < base) (hk : Kept b w w') : OwnL w' base v l := by
  refine ⟨h.1, ?_⟩
  rcases h.2 with hn | ⟨g, cap, cur, hL, hbs, hg, rest⟩
  · exact Or.inl hn
  · refine Or.inr ⟨g, cap, cur, hL, hbs, ?_, rest⟩
    rw [hk.block g (Array.getElem?_eq_some_iff.1 hg).1 (by omega)]
    exact hg
/-- Next on a purse. -/
theorem pnext_none (base b : Nat) (f : Nat → Nat) (w : World) (h : PurseS w base b 0 f) :
    Calls Tryz.prog 57 #[.pointer (some ⟨b, 0, none⟩)] w fun e w' => e = .returned (.tuple #[.agg #[.int .u64 0, .int .u64 0, .int .u64 0, .int .u64 0], .int .i64 81]) ∧ Below w.heap.size w w' := by
  obtain ⟨oa, cm, h1, _⟩ := h
  exact next_none b cm oa w h1
theorem pnext_some (base b m : Nat) (f : Nat → Nat) (hm : 0 < m) (w : World) (h : PurseS w base b m f) :
    Calls Tryz.prog 57 #[.pointer (some ⟨b, 0, none⟩)] w fun e w' => (e = .returned (.tuple #[.agg #[.int .u64 ((limb 0 (f 0) : Nat) : Int), .int .u64 ((limb 1 (f 0) : Nat) : Int), .int .u64 ((limb 2 (f 0) : Nat) : Int), .int .u64 ((limb 3 (f 0) : Nat) : Int)], .int .i64 0]) ∧ PurseS w' base b (m - 1) (fun i => f (i + 1))) ∧ Kept b w w' := by
  obtain ⟨oa, cm, h1, h2, h3, h4⟩ := h
  refine (next_some b m cm oa f hm w h1 h2 (fun g o e => (h4 g o e).1)).mono ?_
  rintro e w' ⟨⟨he, oa', k1, k2, k3⟩, hk⟩
  exact ⟨⟨he, oa', cm - 1, k1, k2, h3, fun g o e => ⟨(k3 g o e).1, by obtain ⟨o', e'⟩ := (k3 g o e).2; exact (h4 g o' e').2⟩⟩, hk⟩
/-- The first k coins as elements. -/
def coinL (el f : Nat → Nat) (k : Nat) : List Nat := (List.range k).map (fun i => el (f i))
theorem coinL_succ (el f : Nat → Nat) (k : Nat) : coinL el f (k + 1) = coinL el f k ++ [el (f k)] := by unfold coinL; rw [List.range_succ, List.map_append]; rfl
theorem coinL_len (el f : Nat → Nat) (k : Nat) : (coinL el f k).length = k := by unfold coinL; simp
/-- What hide answers. -/
def HidE (base b m : Nat) (l : List Nat) (el f : Nat → Nat) (e : Ending) (w' : World) : Prop :=
  (m < 3 ∧ e = .returned (.tuple #[.slice none 0 0, .int .i64 81])) ∨ (3 ≤ m ∧ ∃ z, e = .returned (.tuple #[z, .int .i64 0]) ∧ OwnL w' base z (l ++ coinL el f 3) ∧ PurseS w' base b (m - 3) (fun i => f (i + 3)))
set_option maxHeartbeats 4000000 in
set_option maxRecDepth 20000 in
/-- product.hide. -/
theorem hide_any {si : Int} {el : Nat → Nat} {ad mu : Nat → Nat → Nat} (hF : Fld si el ad mu) (base b m : Nat) (z : Value) (l : List Nat) (f : Nat → Nat) (hl : l.length ≤ 1000) (hf : ∀ i, i < m → f i < 115792089237316195423570985008687907853269984665640564039457584007913129639936) (w : World) (hg : Glob w) (hbase : base ≤ w.heap.size) (h2 : 3 ≤ b) (ho : OwnL w base z l) (hp : PurseS w base b m f) :
    Calls Tryz.prog 43 #[.int .i64 si, z, .pointer (some ⟨b, 0, none⟩)] w fun e w' => HidE base b m l el f e w' ∧ KU base b w w' := by
  have hbb : b < base := by obtain ⟨_, _, _, _, h, _⟩ := hp; exact h
  have HEL : Hid (∀ v, v < 115792089237316195423570985008687907853269984665640564039457584007913129639936 → ∀ w, Glob w → Calls Tryz.prog 42 #[.int .i64 si, .agg #[.int .u64 ((limb 0 (v) : Nat) : Int), .int .u64 ((limb 1 (v) : Nat) : Int), .int .u64 ((limb 2 (v) : Nat) : Int), .int .u64 ((limb 3 (v) : Nat) : Int)]] w fun e w' => e = .returned (.agg #[.int .u64 ((limb 0 (el v) : Nat) : Int), .int .u64 ((limb 1 (el v) : Nat) : Int), .int .u64 ((limb 2 (el v) : Nat) : Int), .int .u64 ((limb 3 (el v) : Nat) : Int)]) ∧ Below w.heap.size w w') := fun v hv w hg => pel_any hF v hv w hg
  have HNN : Hid (∀ (f : Nat → Nat) w, PurseS w base b 0 f → _) := fun f w h => pnext_none base b f w h
  have HNS : Hid (∀ (m : Nat) (f : Nat → Nat), 0 < m → ∀ w, PurseS w base b m f → _) := fun m f hm w h => pnext_some base b m f hm w h
  have HG : Hid (Glob w) := hg
  have HFM : Hid (∀ i, i < m → f i < 115792089237316195423570985008687907853269984665640564039457584007913129639936) := hf
  have HB : Hid (3 ≤ base ∧ 3 ≤ b ∧ b < base ∧ base ≤ w.heap.size ∧ l.length ≤ 1000) := ⟨by omega, h2, hbb, hbase, hl⟩
  obtain ⟨i0, hi, hz0, hz1, hz2⟩ := elemInfo
  have HI := (show Hid _ from hi); have HZ := (show Hid _ from And.intro hz0 (And.intro hz1 hz2)); clear hi hz0 hz1 hz2
  have HO0 : Hid (OwnL w base z (l ++ coinL el f 0)) := by show OwnL _ _ _ _; rw [show l ++ coinL el f 0 = l from List.append_nil _]; exact ho
  have HP0 : Hid (PurseS w base b (m - 0) (fun i => f (i + 0))) := hp
  clear hF hg hf hbb h2 hbase hl ho hp
  go_enter Tryz.func43, Tryz.ntmps43
  go_wp2
  go_loopw [1, 10] (fun zv iv wr => ∃ j : Nat, iv = .int .i64 (j : Int) ∧ j ≤ 3 ∧ j ≤ m ∧ OwnL wr base zv (l ++ coinL el f j) ∧ PurseS wr base b (m - j) (fun i => f (i + j)) ∧ KU base b w wr) (fun _ iv _ => 3 - (intOf iv).toNat)
  case atStart => exact ⟨0, rfl, Nat.zero_le _, Nat.zero_le _, HO0.out, HP0.out, KU.refl _ _ _⟩
  case round =>
    obtain ⟨j, rfl, hj3, hjm, own, hp, hku⟩ := hrel
    have HGR : Hid (Glob wr) := hku.glob HG.out HB.out.1 HB.out.2.1
    by_cases hlt : j < 3
    · have hji : (j : Int) < 3 := by omega
      by_cases hmj : j = m
      · have hm3 : m < 3 := by omega
        have hp0 : PurseS wr base b 0 (fun i => f (i + j)) := by rw [hmj, Nat.sub_self] at hp; rw [hmj]; exact hp
        have HBB := HB.out.2.2.2.1
        have hsz := hku.2.2.2.1
        clear own hp
        go_wp2_with fail
        refine (HNN.out _ wr hp0).mono ?_
        rintro e w1 ⟨rfl, hb1⟩
        have hk1 := hku.below ((bAlloc hb1 (.cells #[.int .u64 0, .int .u64 0, .int .u64 0, .int .u64 0] 25)).mono (Nat.le_trans HBB hsz))
        clear hb1 hku hp0
        go_wp2
        refine bodyPost_ret (v := .tuple #[.slice none 0 0, .int .i64 81]) (by simp [results, Tryz.results43, go_sem]) rfl ⟨Or.inl ⟨hm3, rfl⟩, hk1⟩
      · have hjlt : j < m := by omega
        have hm0 : 0 < m - j := by omega
        have hj1m : j + 1 ≤ m := by omega
        have HX : Hid (f (0 + j) < 115792089237316195423570985008687907853269984665640564039457584007913129639936) := HFM.out _ (by omega)
        have HXE : Hid (l ++ coinL el f (j + 1) = (l ++ coinL el f j) ++ [el (f (0 + j))]) := by show _ = _; rw [coinL_succ, List.append_assoc, Nat.zero_add]
        have HS := HNS.out (m - j) (fun i => f (i + j)) hm0 wr hp
        obtain ⟨x, ex⟩ : ∃ x, x = f (0 + j) := ⟨_, rfl⟩
        rw [← ex] at HX HXE
        have HS' : Calls Tryz.prog 57 #[.pointer (some ⟨b, 0, none⟩)] wr fun e w' => (e = .returned (.tuple #[.agg #[.int .u64 ((limb 0 (x) : Nat) : Int), .int .u64 ((limb 1 (x) : Nat) : Int), .int .u64 ((limb 2 (x) : Nat) : Int), .int .u64 ((limb 3 (x) : Nat) : Int)], .int .i64 0]) ∧ PurseS w' base b (m - j - 1) (fun i => f (i + 1 + j))) ∧ Kept b wr w' := by rw [ex]; exact HS
        have HLL : Hid ((l ++ coinL el f j).length ≤ 1003) := by have := HB.out.2.2.2.2; have := coinL_len el f j; show _ ≤ _; rw [List.length_append]; omega
        have HEX : Hid (∀ w, Glob w → _) := fun w hg => HEL.out x HX.out w hg
        obtain ⟨y, ey⟩ : ∃ y, y = el x := ⟨_, rfl⟩
        rw [← ey] at HXE HEX
        obtain ⟨a, ea⟩ : ∃ a, a = l ++ coinL el f j := ⟨_, rfl⟩
        rw [← ea] at own HXE HLL
        have HBL := HB.out.2.2.2.1
        clear HS ex ey ea hmj hjlt hm0 HX
        go_wp2_with fail
        refine HS'.mono ?_
        rintro e w1 ⟨⟨rfl, hp1⟩, hk1⟩
        have own1 := own.keptB HB.out.2.2.1 hk1
        have hku1 := hku.kept HBL hk1
        clear own hp hk1 HS' HGR
        go_upto_region 8 with fail
        obtain ⟨w2, hw2⟩ : ∃ z : World, z = w1.alloc (.cells #[.int .u64 ((limb 0 (x) : Nat) : Int), .int .u64 ((limb 1 (x) : Nat) : Int), .int .u64 ((limb 2 (x) : Nat) : Int), .int .u64 ((limb 3 (x) : Nat) : Int)] 25) := ⟨_, rfl⟩
        obtain ⟨N8, e8⟩ : ∃ z, z = w1.heap.size := ⟨_, rfl⟩
        have b8 : Blk w2 25 N8 (fun i => limb i x) := by rw [hw2]; exact Blk.newAt _ _ _ (fun i => limb i x) e8
        have hl1 : base ≤ w1.heap.size := Nat.le_trans HBL hku1.2.2.2.1
        have hb2 : Below w1.heap.size w1 w2 := by rw [hw2]; exact bAlloc (Below.refl _ _) _
        have own2 := own1.below hb2
        have hp2 := hp1.below (hb2.mono hl1)
        have hku2 := hku1.below (hb2.mono hl1)
        have hl2 : base ≤ w2.heap.size := Nat.le_trans hl1 hb2.size
        rw [← hw2]
        try rw [← e8]
        clear hw2 e8 own1 hp1 hku1 hl1 hb2
        have q8 := b8.cell
        go_wp2_with fail
        refine (HEX.out w2 (hku2.glob HG.out HB.out.1 HB.out.2.1)).mono ?_
        rintro e w3 ⟨rfl, hb3⟩
        have own3 := own2.below hb3
        have hp3 := hp2.below (hb3.mono hl2)
        have hku3 := hku2.below (hb3.mono hl2)
        have lBw3 : base ≤ w3.heap.size := Nat.le_trans hl2 hb3.size
        have hal : a.length ≤ 1003 := HLL.out
        clear q8 b8 own2 hp2 hku2 hl2 hb3 HEX
        go_wp2_with (first
          | (at_builtin; refine wpList_append_own _ rfl _ _ 22 rfl base 25 i0 (.agg #[.int .u64 0, .int .u64 0, .int .u64 0, .int .u64 0]) 4 32 Tryz.underlying22 HI.out HZ.out.1 HZ.out.2.1 HZ.out.2.2 rfl (by decide) _ _ _ rfl (own3.alloc _) ⟨w3.heap.size, 0, none⟩ 1 1 [.int .u64 ((limb 0 y : Nat) : Int), .int .u64 ((limb 1 y : Nat) : Int), .int .u64 ((limb 2 y : Nat) : Int), .int .u64 ((limb 3 y : Nat) : Int)] rfl rfl ?c1 ?c2 ?c3 ?c4 ?c5 ?_)
          | go_in)
        try
          case c1 =>
            intro j u hj
            match j, hj with
            | 0, hj => simp at hj; subst hj; simp [Addr.add]
            | 1, hj => simp at hj; subst hj; simp [Addr.add]
            | 2, hj => simp at hj; subst hj; simp [Addr.add]
            | 3, hj => simp at hj; subst hj; simp [Addr.add]
            | j + 4, hj => simp at hj
        case c2 => first | exact ⟨rfl, rfl, rfl, rfl⟩ | (intro u hu; simp at hu; rcases hu with rfl | rfl | rfl | rfl <;> rfl)
        case c3 => unfold maxLen; omega
        case c4 => omega
        case c5 => first | omega | (simp; omega)
        intro v6 w6 own6' hgr6 _
        have own6 := OwnL.push own6'
        have hbg6 : Below base w3 w6 := ((Below.refl _ w3).alloc lBw3 _).grown hgr6 (by simp; omega) (fun j hj => own_block_geE own3 hj)
        have lBw6 : base ≤ w6.heap.size := Nat.le_trans lBw3 hbg6.size
        clear own6' hgr6
        have hku6 := hku3.below hbg6
        have hp6 := hp3.below hbg6
        have HP6 : Hid (PurseS w6 base b (m - (j + 1)) (fun i => f (i + (j + 1)))) := by
          have h1 : m - (j + 1) = m - j - 1 := by omega
          have h2 : (fun i => f (i + (j + 1))) = fun i => f (i + 1 + j) := by funext i; congr 1; omega
          show PurseS _ _ _ _ _
          rw [h1, h2]; exact hp6
        have HO6 : Hid (OwnL w6 base v6 (l ++ coinL el f (j + 1))) := by show OwnL _ _ _ _; rw [HXE.out]; exact own6
        clear own3 own6 hp3 hp6 hku3 hbg6 HXE HLL
        go_wp2
        go_roundw
        case measure => simp [intOf]; omega
        case rel => exact ⟨j + 1, by go_num, by omega, by omega, HO6.out, HP6.out, hku6⟩
    · have hji : ¬ (j : Int) < 3 := by omega
      obtain rfl : j = 3 := by omega
      have HO : Hid (OwnL wr base _ (l ++ coinL el f 3)) := own
      have HP : Hid (PurseS wr base b (m - 3) (fun i => f (i + 3))) := hp
      clear own hp
      go_wp2
      refine bodyPost_ret (v := .tuple #[_, .int .i64 0]) (by simp [results, Tryz.results43, go_sem]) rfl ⟨Or.inr ⟨hjm, _, rfl, HO.out, HP.out⟩, hku⟩
end Go.Proofs.YtfdddpndjmookaaGreatDoor

