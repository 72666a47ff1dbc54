/- What bytes.Equal, bytes.Clone and curve.Decode do. -/
import Derived.Test.YthkajdmcmodklaaGreatDoorJ3
import Derived.Laws.BytesArg
import Derived.Lib.SliceRun
namespace Go.Proofs.YthkajdmcmodklaaGreatDoor
open Go.RowKit

/-- Bytes as a string's. -/
def u8s (f : Nat → Nat) (n : Nat) : List UInt8 := (List.range n).map (fun i => UInt8.ofNat (f i))
theorem u8s_len (f : Nat → Nat) (n : Nat) : (u8s f n).length = n := by simp [u8s]
theorem conv_some (w : World) (a : Addr) (n c : Nat) (f : Nat → Nat) (hf : ∀ i, i < n → f i < 256) (hc : ∀ i, i < n → w.cell? (a.add i) = some (.int .u8 ((f i : Nat) : Int))) :
    (convert 34 9 (.slice (some a) n c)).run Tryz.prog w = .ok (.string ⟨(u8s f n).toArray⟩) w := by
  have h := run_convert_bytes_back (P := Tryz.prog) w 34 9 5 a c (u8s f n) Tryz.underlying34 Tryz.underlying5 Tryz.underlying9 (fun j hj => by
    have hj' : j < n := by rw [u8s_len] at hj; exact hj
    rw [hc j hj']
    have e : (u8s f n)[j] = UInt8.ofNat (f j) := by simp [u8s]
    rw [e, UInt8.toNat_ofNat']
    rw [Nat.mod_eq_of_lt (hf j hj')])
  rw [u8s_len] at h
  exact h
theorem u8s_eq (f g : Nat → Nat) (n m : Nat) (hf : ∀ i, i < n → f i < 256) (hg : ∀ i, i < m → g i < 256) : u8s f n = u8s g m ↔ (n = m ∧ ∀ i, i < m → f i = g i) := by
  constructor
  · intro h
    have hl := congrArg List.length h
    rw [u8s_len, u8s_len] at hl
    subst hl
    refine ⟨rfl, fun i hi => ?_⟩
    have h2 : (u8s f n)[i]? = (u8s g n)[i]? := by rw [h]
    simp [u8s, hi] at h2
    have h3 := congrArg UInt8.toNat h2
    rw [UInt8.toNat_ofNat', UInt8.toNat_ofNat', Nat.mod_eq_of_lt (hf i hi), Nat.mod_eq_of_lt (hg i hi)] at h3
    exact h3
  · rintro ⟨rfl, h⟩
    unfold u8s
    apply List.map_congr_left
    intro i hi
    rw [h i (List.mem_range.mp hi)]
set_option maxHeartbeats 1000000 in
theorem equal_str (w : World) (v u : Value) (s t : ByteArray) (C1 : (convert 34 9 v).run Tryz.prog w = .ok (.string s) w) (C2 : (convert 34 9 u).run Tryz.prog w = .ok (.string t) w) :
    Calls Tryz.prog 43 #[v, u] w fun e w' => e = .returned (.bool (s.toList == t.toList)) ∧ w' = w := by
  go_enter Tryz.func43, Tryz.ntmps43
  go_wp2
  go_ret
  exact ⟨rfl, rfl⟩
theorem toList_mk (l : List UInt8) : (ByteArray.mk l.toArray).toList = l := by simp [ByteArray.toList_eq]
theorem strne (f g : Nat → Nat) (n m : Nat) (hf : ∀ i, i < n → f i < 256) (hg : ∀ i, i < m → g i < 256) : ((⟨(u8s f n).toArray⟩ : ByteArray).toList == (⟨(u8s g m).toArray⟩ : ByteArray).toList) = decide (n = m ∧ sameB f g m = true) := by
  rw [toList_mk, toList_mk]
  by_cases h : n = m ∧ sameB f g m = true
  · rw [decide_eq_true h, beq_iff_eq]
    exact (u8s_eq f g n m hf hg).2 ⟨h.1, by have := h.2; unfold sameB at this; exact of_decide_eq_true this⟩
  · rw [decide_eq_false h, beq_eq_false_iff_ne]
    intro k
    have k2 := (u8s_eq f g n m hf hg).1 k
    exact h ⟨k2.1, by unfold sameB; exact decide_eq_true k2.2⟩
theorem bequal_any (v : Value) (n g : Nat) (f : Nat → Nat) (hf : ∀ i, i < n → f i < 256) (w : World) (h : Bs w v n f) (hb : BlkB w 5 g 32 (fun _ => 0)) :
    Calls Tryz.prog 43 #[v, .slice (some ⟨g, 0, none⟩) 32 32] w fun e w' => e = .returned (.bool (decide (n = 32 ∧ sameB f (fun _ => 0) 32 = true))) ∧ w' = w := by
  have C2 := conv_some w ⟨g, 0, none⟩ 32 32 (fun _ => 0) (fun _ _ => by decide) (fun i hi => by
    have hadd : (⟨g, 0, none⟩ : Addr).add i = ⟨g, i, none⟩ := by unfold Addr.add; split <;> simp_all
    rw [hadd]; exact hb.cell i hi)
  rw [← strne f (fun _ => 0) n 32 hf (fun _ _ => by decide)]
  rcases h with ⟨rfl, rfl⟩ | ⟨a, c, rfl, h1, h2, h3, h4⟩
  · exact equal_str w _ _ _ _ (run_convert_bytes_nil w 34 5 Tryz.underlying34 Tryz.underlying5 0 0 9 Tryz.underlying9) C2
  · exact equal_str w _ _ _ _ (conv_some w a n c f hf h4) C2
theorem bequal_32 (v : Value) (g : Nat) (f : Nat → Nat) (hf : ∀ i, i < 32 → f i < 256) (w : World) (h : Bs w v 32 f) (hb : BlkB w 5 g 32 (fun _ => 0)) :
    Calls Tryz.prog 43 #[v, .slice (some ⟨g, 0, none⟩) 32 32] w fun e w' => e = .returned (.bool (sameB f (fun _ => 0) 32)) ∧ w' = w := by
  refine (bequal_any v 32 g f hf w h hb).mono ?_
  rintro e w' ⟨rfl, h'⟩
  refine ⟨?_, h'⟩
  congr 2
  by_cases k : sameB f (fun _ => 0) 32 = true
  · rw [k, decide_eq_true ⟨rfl, rfl⟩]
  · rw [decide_eq_false (fun q => k q.2)]
    exact (Bool.eq_false_iff.mpr k).symm

set_option maxHeartbeats 2000000 in
set_option maxRecDepth 20000 in
theorem clone_some (n cn : Nat) (a : Addr) (f : Nat → Nat) (hn : n ≤ 140737488351232) (w : World) (ha : a.block < w.heap.size) (hc : ∀ i, i < n → w.cell? (a.add i) = some (.int .u8 ((f i : Nat) : Int))) :
    Calls Tryz.prog 44 #[.slice (some a) n cn] w fun e w' => ∃ v, e = .returned v ∧ w'.ownsRow w.heap.size 5 1 v n (bys f n) ∧ Below w.heap.size w w' := by
  obtain ⟨i0, hi, hz0, hz1, hz2⟩ := byteInfo
  have HI := (show Hid _ from hi); have HZ := (show Hid _ from And.intro hz0 (And.intro hz1 hz2)); clear hi hz0 hz1 hz2
  have HC := (show Hid _ from hc); clear hc
  have hown0 : (w.alloc (.cells #[] 5)).ownsRow w.heap.size 5 1 (.slice (some ⟨w.heap.size, 0, none⟩) 0 0) 0 [] :=
    ⟨rfl, Or.inr ⟨w.heap.size, 0, #[], rfl, Nat.le_refl _, new_block' _ _, Nat.le_refl _, by decide, rfl, rfl⟩⟩
  have HO : Hid ((w.alloc (.cells #[] 5)).ownsRow w.heap.size 5 1 (.slice (some ⟨w.heap.size, 0, none⟩) 0 0) 0 []) := hown0
  clear hown0
  have EQ : (binOp .eql 34 (.slice (some a) n cn) (.slice none 0 0)).run Tryz.prog w = .ok (.bool false) w := by
    rw [Lib.run_eql_slice_nil w 34 5 (some a) n cn 0 0 Tryz.underlying34]; rfl
  go_enter Tryz.func44, Tryz.ntmps44
  go_wp2_with (first
    | (at_builtin; refine wpList_append_own _ rfl _ _ 34 rfl w.heap.size 5 i0 (.int .u8 0) 1 1 Tryz.underlying34 HI.out HZ.out.1 HZ.out.2.1 HZ.out.2.2 rfl (by decide) _ _ _ rfl HO.out a n cn (bys f n) rfl ?c0 ?c1 ?c2 ?c3 ?c4 ?c5 ?_)
    | go_in)
  case c0 => rw [bys_len]; omega
  case c1 =>
    intro j u hj
    have hjn : j < n := by
      rcases Nat.lt_or_ge j n with h | h
      · exact h
      · rw [List.getElem?_eq_none (by rw [bys_len]; exact h)] at hj; cases hj
    rw [bys_get f n j hjn] at hj
    cases hj
    have hb : Below w.heap.size w (w.alloc (.cells #[] 5)) := (Below.refl _ _).alloc (Nat.le_refl _) _
    rw [hb.cell (p := a.add j) (by unfold Addr.add; split <;> exact ha)]
    exact HC.out j hjn
  case c2 => intro u hu; unfold bys at hu; obtain ⟨i, _, rfl⟩ := List.mem_map.mp hu; rfl
  case c3 => unfold maxLen; omega
  case c4 => omega
  case c5 => simp
  intro v' w2 hown' hgrow _
  go_wp2
  go_ret
  refine ⟨_, rfl, ?_, ?_⟩
  · exact hown'
  · exact ((Below.refl _ w).alloc (Nat.le_refl _) _).grown hgrow (by simp) (fun j hj => own_block_ge' HO.out hj)

theorem own_last {w : World} {base : Nat} {v : Value} {f : Nat → Nat} (h : w.ownsRow base 5 1 v 32 (bys f 32)) :
    ∃ g c, v = .slice (some ⟨g, 0, none⟩) 32 c ∧ base ≤ g ∧ g < w.heap.size ∧ w.cell? ⟨g, 31, none⟩ = some (.int .u8 ((f 31 : Nat) : Int)) ∧ (∀ o, w.frozen? ⟨g, o, none⟩ = false) ∧ ∀ x : Nat, Bs (w.setCell ⟨g, 31, none⟩ (.int .u8 ((x : Nat) : Int))) v 32 (fun i => if i = 31 then x else f i) := by
  have hB := own_Bs h
  obtain ⟨_, h⟩ := h
  rcases h with ⟨rfl, h0⟩ | ⟨g, c, cur, rfl, hb, hg, hc, hm, hs, ht⟩
  · cases h0
  · rcases hB with ⟨h0, _⟩ | ⟨a, c', ha, h1, h2, h3, h4⟩
    · cases h0
    · cases ha
      have hadd : ∀ i, (⟨g, 0, none⟩ : Addr).add i = ⟨g, i, none⟩ := fun i => by unfold Addr.add; split <;> simp_all
      have hcell : ∀ i, i < 32 → w.cell? ⟨g, i, none⟩ = some (.int .u8 ((f i : Nat) : Int)) := fun i hi => by rw [← hadd i]; exact h4 i hi
      refine ⟨g, c, rfl, hb, h3, hcell 31 (by decide), fun o => by simp [World.frozen?, hg], fun x => Or.inr ⟨⟨g, 0, none⟩, c, rfl, h1, h2, ?_, fun i hi => ?_⟩⟩
      · have := (Below.refl (g + 0) w).setCell (p := ⟨g, 31, none⟩) (by simp) (.int .u8 ((x : Nat) : Int))
        exact Nat.lt_of_lt_of_le h3 this.size
      · rw [hadd]
        by_cases e : i = 31
        · subst e
          rw [World.cell?_setCell_same _ _ _ (hcell 31 (by decide))]
          simp
        · rw [World.cell?_setCell_other _ _ _ _ (by intro k; cases k; exact e rfl), hcell i hi]
          show _ = some (Value.int .u8 (((if i = 31 then x else f i) : Nat) : Int))
          rw [if_neg e]

theorem andNot8 : ∀ n : Fin 256, bits BinOp.andNot IntKind.u8 ((n.val : Nat) : Int) 128 = ((n.val % 128 : Nat) : Int) := by decide +kernel
theorem and8 : ∀ n : Fin 256, bits BinOp.and IntKind.u8 ((n.val : Nat) : Int) 128 = ((if n.val < 128 then 0 else 128 : Nat) : Int) := by decide +kernel
theorem add31 (a : Addr) : a.add 31 = ⟨a.block, a.off + 31, none⟩ := by unfold Addr.add; rw [if_neg (by decide)]
/-- The top bit. -/
theorem leN_top (f : Nat → Nat) (hf : ∀ i, i < 32 → f i < 256) : (128 ≤ f 31 ↔ 57896044618658097711785492504343953926634992332820282019728792003956564819968 ≤ leN f 32) ∧ leN (fun i => if i = 31 then f 31 % 128 else f i) 32 = leN f 32 % 57896044618658097711785492504343953926634992332820282019728792003956564819968 := by
  have h1 := leN_lt f 31 (fun i hi => hf i (by omega))
  have h2 := hf 31 (by decide)
  have e1 : leN f 32 = leN f 31 + f 31 * 256 ^ 31 := rfl
  have hc : ∀ k, k ≤ 31 → leN (fun i => if i = 31 then f 31 % 128 else f i) k = leN f k := by
    intro k hk
    induction k with
    | zero => rfl
    | succ k ih =>
      show leN _ k + (if k = 31 then f 31 % 128 else f k) * 256 ^ k = leN f k + f k * 256 ^ k
      rw [ih (by omega), if_neg (by omega)]
  have e2 : leN (fun i => if i = 31 then f 31 % 128 else f i) 32 = leN f 31 + f 31 % 128 * 256 ^ 31 := by
    show leN _ 31 + (if 31 = 31 then f 31 % 128 else f 31) * 256 ^ 31 = _
    rw [hc 31 (Nat.le_refl _), if_pos rfl]
  rw [e2, e1]
  generalize leN f 31 = L at *
  generalize f 31 = t at *
  rw [show (256 : Nat) ^ 31 = 452312848583266388373324160190187140051835877600158453279131187530910662656 from by decide] at *
  constructor <;> omega
theorem leN_zero (f : Nat → Nat) : ∀ n, leN f n = 0 ↔ ∀ i, i < n → f i = 0
  | 0 => by simp [leN]
  | n + 1 => by
    show leN f n + f n * 256 ^ n = 0 ↔ _
    have ih := leN_zero f n
    have hp : 0 < 256 ^ n := Nat.pow_pos (by decide)
    constructor
    · intro h i hi
      have h1 : leN f n = 0 := by omega
      have h2 : f n * 256 ^ n = 0 := by omega
      rcases Nat.lt_or_ge i n with hl | hl
      · exact ih.1 h1 i hl
      · have : i = n := by omega
        subst this
        rcases Nat.mul_eq_zero.mp h2 with h3 | h3
        · exact h3
        · omega
    · intro h
      rw [ih.2 (fun i hi => h i (by omega)), h n (by omega), Nat.zero_mul]

/-- What curve.Decode answers of 32 bytes with the number V. -/
def DecOK (c V X : Nat) : Prop := V ≠ 0 ∧ X = V % 57896044618658097711785492504343953926634992332820282019728792003956564819968 ∧ X < modN c ∧ hasR c (sqY c X)
def DecNo (c V : Nat) : Prop := V ≠ 0 ∧ (modN c ≤ V % 57896044618658097711785492504343953926634992332820282019728792003956564819968 ∨ ¬ hasR c (sqY c (V % 57896044618658097711785492504343953926634992332820282019728792003956564819968)))

set_option maxHeartbeats 2000000 in
set_option maxRecDepth 20000 in
theorem decode_out (c : Int) (hc : c < 0 ∨ 4 ≤ c) (v : Value) (w : World) :
    Calls Tryz.prog 19 #[.int .i64 c, v] w fun e w' => e = .returned (.tuple #[.agg #[.int .u64 ((limb 0 (0) : Nat) : Int), .int .u64 ((limb 1 (0) : Nat) : Int), .int .u64 ((limb 2 (0) : Nat) : Int), .int .u64 ((limb 3 (0) : Nat) : Int), .int .u64 ((limb 0 (0) : Nat) : Int), .int .u64 ((limb 1 (0) : Nat) : Int), .int .u64 ((limb 2 (0) : Nat) : Int), .int .u64 ((limb 3 (0) : Nat) : Int), .bool false], .int .i64 40]) ∧ Below w.heap.size w w' := by
  have HIC : Hid (∀ w, Calls Tryz.prog 27 #[.int .i64 c] w fun e w' => e = .returned (.bool false) ∧ w' = w) := fun w => isCurve_out c hc w
  have hzp : (.agg #[.int .u64 ((limb 0 (0) : Nat) : Int), .int .u64 ((limb 1 (0) : Nat) : Int), .int .u64 ((limb 2 (0) : Nat) : Int), .int .u64 ((limb 3 (0) : Nat) : Int), .int .u64 ((limb 0 (0) : Nat) : Int), .int .u64 ((limb 1 (0) : Nat) : Int), .int .u64 ((limb 2 (0) : Nat) : Int), .int .u64 ((limb 3 (0) : Nat) : Int), .bool false] : Value) = .agg #[.int .u64 0, .int .u64 0, .int .u64 0, .int .u64 0, .int .u64 0, .int .u64 0, .int .u64 0, .int .u64 0, .bool false] := by rw [limb_zero, limb_zero, limb_zero, limb_zero]; rfl
  rw [hzp]
  clear hzp hc
  go_enter Tryz.func19, Tryz.ntmps19
  go_upto_region 1 with fail
  obtain ⟨w0, hw0⟩ : ∃ w0 : World, w0 = w.alloc (.cells #[.int .u64 0, .int .u64 0, .int .u64 0, .int .u64 0, .int .u64 0, .int .u64 0, .int .u64 0, .int .u64 0, .bool false] 26) := ⟨_, rfl⟩
  have br0 : Pt w0 w.heap.size 0 0 false := by rw [hw0]; exact Pt.zeroAt _ _ rfl
  have hbw0 : Below w.heap.size w w0 := by rw [hw0]; exact (Below.refl _ _).alloc (Nat.le_refl _) _
  rw [← hw0]
  clear hw0
  go_wp2_with fail
  refine (HIC.out _).mono ?_
  rintro e w1 ⟨rfl, hw1⟩
  rw [hw1]
  clear hw1 HIC
  obtain ⟨r0, r1, r2, r3, r4, r5, r6, r7, r8, rf⟩ := br0.cells
  go_wp2
  refine bodyPost_ret (v := .tuple #[.agg #[.int .u64 0, .int .u64 0, .int .u64 0, .int .u64 0, .int .u64 0, .int .u64 0, .int .u64 0, .int .u64 0, .bool false], .int .i64 40]) (by simp [results, Tryz.results19, go_sem, r0, r1, r2, r3, r4, r5, r6, r7, r8]) rfl ⟨rfl, ?_⟩
  exact bSet9 hbw0 (Nat.le_refl _) _ _ _ _ _ _ _ _ _

set_option maxHeartbeats 1000000 in
set_option maxRecDepth 20000 in
theorem decode_len (c : Nat) (n : Nat) (hn : ¬ n = 32) (hc : c < 4) (v : Value) (f : Nat → Nat) (w : World) (hg : GlobC w) (hB : Bs w v n f) (hf : ∀ i, i < n → f i < 256) (hnm : n ≤ maxLen) :
    Calls Tryz.prog 19 #[.int .i64 (c : Int), v] w fun e w' => e = .returned (.tuple #[.agg #[.int .u64 ((limb 0 (0) : Nat) : Int), .int .u64 ((limb 1 (0) : Nat) : Int), .int .u64 ((limb 2 (0) : Nat) : Int), .int .u64 ((limb 3 (0) : Nat) : Int), .int .u64 ((limb 0 (0) : Nat) : Int), .int .u64 ((limb 1 (0) : Nat) : Int), .int .u64 ((limb 2 (0) : Nat) : Int), .int .u64 ((limb 3 (0) : Nat) : Int), .bool false], .int .i64 41]) ∧ Below w.heap.size w w' := by
  obtain ⟨i0, hi, hz0, hz1, hz2⟩ := byteInfo
  have HI := (show Hid _ from hi); have HZ := (show Hid _ from And.intro hz0 (And.intro hz1 hz2)); clear hi hz0 hz1 hz2
  have HG0 : Hid (GlobC w) := hg
  have HIC : Hid (∀ w, Calls Tryz.prog 27 #[.int .i64 (c : Int)] w fun e w' => e = .returned (.bool true) ∧ w' = w) := fun w => isCurve_in c hc w
  have hzp : (.agg #[.int .u64 ((limb 0 (0) : Nat) : Int), .int .u64 ((limb 1 (0) : Nat) : Int), .int .u64 ((limb 2 (0) : Nat) : Int), .int .u64 ((limb 3 (0) : Nat) : Int), .int .u64 ((limb 0 (0) : Nat) : Int), .int .u64 ((limb 1 (0) : Nat) : Int), .int .u64 ((limb 2 (0) : Nat) : Int), .int .u64 ((limb 3 (0) : Nat) : Int), .bool false] : Value) = .agg #[.int .u64 0, .int .u64 0, .int .u64 0, .int .u64 0, .int .u64 0, .int .u64 0, .int .u64 0, .int .u64 0, .bool false] := by rw [limb_zero, limb_zero, limb_zero, limb_zero]; rfl
  rw [hzp]
  have hq : decide (n = 32 ∧ sameB f (fun _ => 0) 32 = true) = false := decide_eq_false (fun h => hn h.1)
  have h1 : ((n : Int) != 32) = true := by simp; omega
  have HB : Hid (Bs w v n f) := hB
  have HQ : Hid (decide (n = 32 ∧ sameB f (fun _ => 0) 32 = true) = false) := hq
  clear hzp hg hn hc hq
  rcases hB.cases with ⟨rfl, rfl⟩ | ⟨a, cc, rfl⟩
  all_goals
    clear hB
    go_enter Tryz.func19, Tryz.ntmps19
    go_upto_region 1 with fail
    obtain ⟨w0, hw0⟩ : ∃ w0 : World, w0 = w.alloc (.cells #[.int .u64 0, .int .u64 0, .int .u64 0, .int .u64 0, .int .u64 0, .int .u64 0, .int .u64 0, .int .u64 0, .bool false] 26) := ⟨_, rfl⟩
    have br0 : Pt w0 w.heap.size 0 0 false := by rw [hw0]; exact Pt.zeroAt _ _ rfl
    have hbw0 : Below w.heap.size w w0 := by rw [hw0]; exact (Below.refl _ _).alloc (Nat.le_refl _) _
    rw [← hw0]
    clear hw0
    go_wp2_with fail
    refine (HIC.out _).mono ?_
    rintro e w1 ⟨rfl, hw1⟩
    rw [hw1]
    clear hw1 HIC
    go_wp2_with (first
      | (at_make; refine wpList_make_full _ rfl _ _ 34 rfl w0.heap.size 5 i0 (.int .u8 0) 1 Tryz.underlying34 HI.out HZ.out.1 HZ.out.2.1 .i64 .i64 32 32 32 rfl rfl rfl rfl ?c1 (by decide) (Nat.le_refl _) ?_)
      | go_in)
    case c1 => rw [HZ.out.2.2]; decide
    intro w5 hown hgrow
    obtain ⟨bS, _⟩ := own_blkB (f := fun _ => 0) hown (by intro i hi; simp [madeCells]; exact ⟨i, by simp [hi], by rw [Nat.mod_one]; rfl⟩) (by decide)
    have hbe : Below w0.heap.size w0 w5 := (Below.refl _ w0).grown hgrow (Nat.le_refl _) (fun j hj => by cases hj)
    have br5 := br0.belowAll hbe
    have hbw5 := bStep hbw0 hbe
    have HEQ := fun (_ : Unit) => bequal_any _ _ w0.heap.size f hf w5 (HB.out.below hbw5) bS
    rw [HQ.out] at HEQ
    have HE := (show Hid _ from HEQ)
    clear hown hgrow hbe HEQ br0 hbw0 bS
    go_wp2_with fail
    refine (HE.out ()).mono ?_
    rintro e w6 ⟨rfl, hw6⟩
    rw [hw6]
    clear hw6 HE
    obtain ⟨r0, r1, r2, r3, r4, r5, r6, r7, r8, rf⟩ := br5.cells
    go_wp2
    refine bodyPost_ret (v := .tuple #[.agg #[.int .u64 0, .int .u64 0, .int .u64 0, .int .u64 0, .int .u64 0, .int .u64 0, .int .u64 0, .int .u64 0, .bool false], .int .i64 41]) (by simp [results, Tryz.results19, go_sem, r0, r1, r2, r3, r4, r5, r6, r7, r8]) rfl ⟨rfl, ?_⟩
    exact bSet9 hbw5 (Nat.le_refl _) _ _ _ _ _ _ _ _ _

set_option maxHeartbeats 1000000 in
set_option maxRecDepth 20000 in
theorem decode_nought (c : Nat) (hc : c < 4) (v : Value) (f : Nat → Nat) (w : World) (hg : GlobC w) (hB : Bs w v 32 f) (hf : ∀ i, i < 32 → f i < 256) (h0 : leN f 32 = 0) :
    Calls Tryz.prog 19 #[.int .i64 (c : Int), v] w fun e w' => e = .returned (.tuple #[.agg #[.int .u64 ((limb 0 (0) : Nat) : Int), .int .u64 ((limb 1 (0) : Nat) : Int), .int .u64 ((limb 2 (0) : Nat) : Int), .int .u64 ((limb 3 (0) : Nat) : Int), .int .u64 ((limb 0 (0) : Nat) : Int), .int .u64 ((limb 1 (0) : Nat) : Int), .int .u64 ((limb 2 (0) : Nat) : Int), .int .u64 ((limb 3 (0) : Nat) : Int), .bool true], .int .i64 0]) ∧ Below w.heap.size w w' := by
  obtain ⟨i0, hi, hz0, hz1, hz2⟩ := byteInfo
  have HI := (show Hid _ from hi); have HZ := (show Hid _ from And.intro hz0 (And.intro hz1 hz2)); clear hi hz0 hz1 hz2
  have HG0 : Hid (GlobC w) := hg
  have HIC : Hid (∀ w, Calls Tryz.prog 27 #[.int .i64 (c : Int)] w fun e w' => e = .returned (.bool true) ∧ w' = w) := fun w => isCurve_in c hc w
  have HIN : Hid (∀ w, _) := infinity_any
  have hq : sameB f (fun _ => 0) 32 = true := sameB_true ((leN_zero f 32).1 h0)
  have HQ : Hid (sameB f (fun _ => 0) 32 = true) := hq
  clear hg hc hq h0
  go_enter Tryz.func19, Tryz.ntmps19
  go_upto_region 1 with fail
  obtain ⟨w0, hw0⟩ : ∃ w0 : World, w0 = w.alloc (.cells #[.int .u64 0, .int .u64 0, .int .u64 0, .int .u64 0, .int .u64 0, .int .u64 0, .int .u64 0, .int .u64 0, .bool false] 26) := ⟨_, rfl⟩
  have br0 : Pt w0 w.heap.size 0 0 false := by rw [hw0]; exact Pt.zeroAt _ _ rfl
  have hbw0 : Below w.heap.size w w0 := by rw [hw0]; exact (Below.refl _ _).alloc (Nat.le_refl _) _
  rw [← hw0]
  clear hw0
  go_wp2_with fail
  refine (HIC.out _).mono ?_
  rintro e w1 ⟨rfl, hw1⟩
  rw [hw1]
  clear hw1 HIC
  go_wp2_with (first
    | (at_make; refine wpList_make_full _ rfl _ _ 34 rfl w0.heap.size 5 i0 (.int .u8 0) 1 Tryz.underlying34 HI.out HZ.out.1 HZ.out.2.1 .i64 .i64 32 32 32 rfl rfl rfl rfl ?c1 (by decide) (Nat.le_refl _) ?_)
    | go_in)
  case c1 => rw [HZ.out.2.2]; decide
  intro w5 hown hgrow
  obtain ⟨bS, _⟩ := own_blkB (f := fun _ => 0) hown (by intro i hi; simp [madeCells]; exact ⟨i, by simp [hi], by rw [Nat.mod_one]; rfl⟩) (by decide)
  have hbe : Below w0.heap.size w0 w5 := (Below.refl _ w0).grown hgrow (Nat.le_refl _) (fun j hj => by cases hj)
  have br5 := br0.belowAll hbe
  have hbw5 := bStep hbw0 hbe
  have HEQ := fun (_ : Unit) => bequal_32 v w0.heap.size f hf w5 (hB.below hbw5) bS
  rw [HQ.out] at HEQ
  have HE := (show Hid _ from HEQ)
  clear hown hgrow hbe HEQ br0 hbw0 bS
  go_wp2_with fail
  refine (HE.out ()).mono ?_
  rintro e w6 ⟨rfl, hw6⟩
  rw [hw6]
  clear hw6 HE
  go_wp2_with fail
  refine (HIN.out _).mono ?_
  rintro e w7 ⟨rfl, hb7⟩
  obtain ⟨r0, r1, r2, r3, r4, r5, r6, r7, r8, rf⟩ := (br5.belowAll hb7).cells
  go_wp2
  refine bodyPost_ret (v := .tuple #[.agg #[.int .u64 ((limb 0 (0) : Nat) : Int), .int .u64 ((limb 1 (0) : Nat) : Int), .int .u64 ((limb 2 (0) : Nat) : Int), .int .u64 ((limb 3 (0) : Nat) : Int), .int .u64 ((limb 0 (0) : Nat) : Int), .int .u64 ((limb 1 (0) : Nat) : Int), .int .u64 ((limb 2 (0) : Nat) : Int), .int .u64 ((limb 3 (0) : Nat) : Int), .bool true], .int .i64 0]) (by simp [results, Tryz.results19, go_sem, r0, r1, r2, r3, r4, r5, r6, r7, r8]) rfl ⟨rfl, ?_⟩
  exact bSet9 (bStep hbw5 hb7) (Nat.le_refl _) _ _ _ _ _ _ _ _ _
theorem blk9 {W : World} {t : TypeId} {b r : Nat} {f : Nat → Nat} (h : Blk W t b f) (hr : b ≠ r) (v0 v1 v2 v3 v4 v5 v6 v7 v8 : Value) :
    Blk (((((((((W.setCell ⟨r, 0, none⟩ v0).setCell ⟨r, 1, none⟩ v1).setCell ⟨r, 2, none⟩ v2).setCell ⟨r, 3, none⟩ v3).setCell ⟨r, 4, none⟩ v4).setCell ⟨r, 5, none⟩ v5).setCell ⟨r, 6, none⟩ v6).setCell ⟨r, 7, none⟩ v7).setCell ⟨r, 8, none⟩ v8) t b f :=
  ((((((((h.other hr v0).other hr v1).other hr v2).other hr v3).other hr v4).other hr v5).other hr v6).other hr v7).other hr v8

set_option maxHeartbeats 1000000 in
set_option maxRecDepth 20000 in
theorem decode_big (c : Nat) (hc : c < 4) (v : Value) (f : Nat → Nat) (w : World) (hg : GlobC w) (hB : Bs w v 32 f) (hf : ∀ i, i < 32 → f i < 256) (h0 : ¬ leN f 32 = 0) (hX : ¬ leN f 32 % 57896044618658097711785492504343953926634992332820282019728792003956564819968 < modN c) :
    Calls Tryz.prog 19 #[.int .i64 (c : Int), v] w fun e w' => e = .returned (.tuple #[.agg #[.int .u64 ((limb 0 (0) : Nat) : Int), .int .u64 ((limb 1 (0) : Nat) : Int), .int .u64 ((limb 2 (0) : Nat) : Int), .int .u64 ((limb 3 (0) : Nat) : Int), .int .u64 ((limb 0 (0) : Nat) : Int), .int .u64 ((limb 1 (0) : Nat) : Int), .int .u64 ((limb 2 (0) : Nat) : Int), .int .u64 ((limb 3 (0) : Nat) : Int), .bool false], .int .i64 41]) ∧ Below w.heap.size w w' := by
  obtain ⟨i0, hi, hz0, hz1, hz2⟩ := byteInfo
  have HI := (show Hid _ from hi); have HZ := (show Hid _ from And.intro hz0 (And.intro hz1 hz2)); clear hi hz0 hz1 hz2
  have HG0 : Hid (GlobC w) := hg
  have HIC : Hid (∀ w, Calls Tryz.prog 27 #[.int .i64 (c : Int)] w fun e w' => e = .returned (.bool true) ∧ w' = w) := fun w => isCurve_in c hc w
  obtain ⟨htop, hlow⟩ := leN_top f hf
  have hq : sameB f (fun _ => 0) 32 = false := decide_eq_false (fun h => h0 ((leN_zero f 32).2 h))
  have HQ : Hid (sameB f (fun _ => 0) 32 = false) := hq
  have A1 := andNot8 ⟨f 31, hf 31 (by decide)⟩
  have HDE : Hid (∀ w (u : Value), Glob w → Bs w u 32 (fun i => if i = 31 then f 31 % 128 else f i) → _) := fun w u hg hu => fDecode_32 c u (fun i => if i = 31 then f 31 % 128 else f i) hc w hg hu (fun i hi => by
    show (if i = 31 then f 31 % 128 else f i) < 256
    split
    · omega
    · exact hf i hi)
  rw [hlow] at HDE
  have hzp : (.agg #[.int .u64 ((limb 0 (0) : Nat) : Int), .int .u64 ((limb 1 (0) : Nat) : Int), .int .u64 ((limb 2 (0) : Nat) : Int), .int .u64 ((limb 3 (0) : Nat) : Int), .int .u64 ((limb 0 (0) : Nat) : Int), .int .u64 ((limb 1 (0) : Nat) : Int), .int .u64 ((limb 2 (0) : Nat) : Int), .int .u64 ((limb 3 (0) : Nat) : Int), .bool false] : Value) = .agg #[.int .u64 0, .int .u64 0, .int .u64 0, .int .u64 0, .int .u64 0, .int .u64 0, .int .u64 0, .int .u64 0, .bool false] := by rw [limb_zero, limb_zero, limb_zero, limb_zero]; rfl
  rw [hzp]
  have hd : decV (modN c) (leN f 32 % 57896044618658097711785492504343953926634992332820282019728792003956564819968) = .tuple #[.agg #[.int .u64 0, .int .u64 0, .int .u64 0, .int .u64 0], .int .i64 21] := by unfold decV; rw [if_neg hX]
  rw [hd] at HDE
  clear hzp hd htop hlow
  dsimp only at A1
  obtain ⟨l31, el31⟩ : ∃ m : Nat, m = f 31 % 128 := ⟨_, rfl⟩
  rw [← el31] at A1 HDE
  have HF : Hid (∀ i, i < 32 → f i < 256) := hf
  have HB : Hid (Bs w v 32 f) := hB
  clear hg hc hq h0 hX el31
  rcases hB with ⟨_, k0⟩ | ⟨a, cc, rfl, hc1, hc2, hc3, hc4⟩
  · cases k0
  have HCL : Hid (∀ w', Below w.heap.size w w' → _) := fun w' hb => clone_some 32 cc a f (by decide) w' (Nat.lt_of_lt_of_le hc3 hb.size) (fun i hi => by rw [hb.cell (p := a.add i) (by unfold Addr.add; split <;> exact hc3)]; exact hc4 i hi)
  have H31 : Hid (∀ w', Below w.heap.size w w' → w'.cell? (a.add 31) = some (.int .u8 ((f 31 : Nat) : Int))) := fun w' hb => by rw [hb.cell (p := a.add 31) (by unfold Addr.add; split <;> exact hc3)]; exact hc4 31 (by decide)
  clear hc1 hc2 hc3 hc4
  clear hf
  go_enter Tryz.func19, Tryz.ntmps19
  go_upto_region 1 with fail
  obtain ⟨w0, hw0⟩ : ∃ w0 : World, w0 = w.alloc (.cells #[.int .u64 0, .int .u64 0, .int .u64 0, .int .u64 0, .int .u64 0, .int .u64 0, .int .u64 0, .int .u64 0, .bool false] 26) := ⟨_, rfl⟩
  have br0 : Pt w0 w.heap.size 0 0 false := by rw [hw0]; exact Pt.zeroAt _ _ rfl
  have hbw0 : Below w.heap.size w w0 := by rw [hw0]; exact (Below.refl _ _).alloc (Nat.le_refl _) _
  rw [← hw0]
  clear hw0
  go_wp2_with fail
  refine (HIC.out _).mono ?_
  rintro e w1 ⟨rfl, hw1⟩
  rw [hw1]
  clear hw1 HIC
  go_wp2_with (first
    | (at_make; refine wpList_make_full _ rfl _ _ 34 rfl w0.heap.size 5 i0 (.int .u8 0) 1 Tryz.underlying34 HI.out HZ.out.1 HZ.out.2.1 .i64 .i64 32 32 32 rfl rfl rfl rfl ?c1 (by decide) (Nat.le_refl _) ?_)
    | go_in)
  case c1 => rw [HZ.out.2.2]; decide
  intro w5 hown hgrow
  obtain ⟨bS, _⟩ := own_blkB (f := fun _ => 0) hown (by intro i hi; simp [madeCells]; exact ⟨i, by simp [hi], by rw [Nat.mod_one]; rfl⟩) (by decide)
  have hbe : Below w0.heap.size w0 w5 := (Below.refl _ w0).grown hgrow (Nat.le_refl _) (fun j hj => by cases hj)
  have br5 := br0.belowAll hbe
  have hbw5 := bStep hbw0 hbe
  have HEQ := fun (_ : Unit) => bequal_32 _ w0.heap.size f HF.out w5 (HB.out.below hbw5) bS
  rw [HQ.out] at HEQ
  have HE := (show Hid _ from HEQ)
  clear hown hgrow hbe HEQ br0 hbw0 bS
  go_wp2_with fail
  refine (HE.out ()).mono ?_
  rintro e w6 ⟨rfl, hw6⟩
  rw [hw6]
  clear hw6 HE w6
  go_wp2_with fail
  refine (HCL.out _ hbw5).mono ?_
  rintro e w7 ⟨u, rfl, hown, hb7⟩
  obtain ⟨g, c7, rfl, hgl, hgs, c31, fS, HBs⟩ := own_last hown
  have br7 := br5.belowAll hb7
  have hbw7 := bStep hbw5 hb7
  have hgw : w.heap.size < g := Nat.lt_of_lt_of_le br5.lt hgl
  have HBS := (show Hid _ from HBs l31)
  clear hown HBs br5 hbw5 hb7 HCL HB
  go_upto_region 9 with fail
  obtain ⟨w8, hw8⟩ : ∃ y : World, y = w7.setCell ⟨g, 31, none⟩ (.int .u8 ((l31 : Nat) : Int)) := ⟨_, rfl⟩
  rw [← hw8] at HBS ⊢
  have br8 : Pt w8 w.heap.size 0 0 false := by rw [hw8]; exact br7.other (Nat.ne_of_lt hgw) _
  have hbw8 : Below w.heap.size w w8 := by rw [hw8]; exact hbw7.setCell (Nat.le_of_lt hgw) _
  clear hw8 br7 hbw7 c31 fS hgs hgl
  go_wp2_with fail
  refine (HDE.out _ _ (HG0.out.below hbw8).1 HBS.out).mono ?_
  rintro e w9 ⟨rfl, hb9⟩
  have br9 := (br8.belowAll hb9).alloc (.cells #[.int .u64 0, .int .u64 0, .int .u64 0, .int .u64 0] 24)
  have hbw9 := bAlloc (bStep hbw8 hb9) (.cells #[.int .u64 0, .int .u64 0, .int .u64 0, .int .u64 0] 24)
  clear br8 hbw8 hb9 HDE HBS HG0
  go_upto_region 10 with fail
  obtain ⟨w10, hw10⟩ : ∃ y : World, y = w9.alloc (.cells #[.int .u64 0, .int .u64 0, .int .u64 0, .int .u64 0] 24) := ⟨_, rfl⟩
  rw [← hw10] at br9 hbw9 ⊢
  clear hw10
  obtain ⟨r0, r1, r2, r3, r4, r5, r6, r7, r8, rf⟩ := br9.cells
  go_wp2
  refine bodyPost_ret (v := .tuple #[.agg #[.int .u64 0, .int .u64 0, .int .u64 0, .int .u64 0, .int .u64 0, .int .u64 0, .int .u64 0, .int .u64 0, .bool false], .int .i64 41]) (by simp [results, Tryz.results19, go_sem, r0, r1, r2, r3, r4, r5, r6, r7, r8]) rfl ⟨rfl, ?_⟩
  exact bSet9 hbw9 (Nat.le_refl _) _ _ _ _ _ _ _ _ _

set_option maxHeartbeats 1000000 in
set_option maxRecDepth 20000 in
theorem decode_none (c : Nat) (hc : c < 4) (v : Value) (f : Nat → Nat) (w : World) (hg : GlobC w) (hB : Bs w v 32 f) (hf : ∀ i, i < 32 → f i < 256) (h0 : ¬ leN f 32 = 0) (hX : leN f 32 % 57896044618658097711785492504343953926634992332820282019728792003956564819968 < modN c) (hR : ¬ hasR c (sqY c (leN f 32 % 57896044618658097711785492504343953926634992332820282019728792003956564819968))) :
    Calls Tryz.prog 19 #[.int .i64 (c : Int), v] w fun e w' => e = .returned (.tuple #[.agg #[.int .u64 ((limb 0 (0) : Nat) : Int), .int .u64 ((limb 1 (0) : Nat) : Int), .int .u64 ((limb 2 (0) : Nat) : Int), .int .u64 ((limb 3 (0) : Nat) : Int), .int .u64 ((limb 0 (0) : Nat) : Int), .int .u64 ((limb 1 (0) : Nat) : Int), .int .u64 ((limb 2 (0) : Nat) : Int), .int .u64 ((limb 3 (0) : Nat) : Int), .bool false], .int .i64 41]) ∧ Below w.heap.size w w' := by
  obtain ⟨i0, hi, hz0, hz1, hz2⟩ := byteInfo
  have HI := (show Hid _ from hi); have HZ := (show Hid _ from And.intro hz0 (And.intro hz1 hz2)); clear hi hz0 hz1 hz2
  have HG0 : Hid (GlobC w) := hg
  have HIC : Hid (∀ w, Calls Tryz.prog 27 #[.int .i64 (c : Int)] w fun e w' => e = .returned (.bool true) ∧ w' = w) := fun w => isCurve_in c hc w
  obtain ⟨htop, hlow⟩ := leN_top f hf
  have hq : sameB f (fun _ => 0) 32 = false := decide_eq_false (fun h => h0 ((leN_zero f 32).2 h))
  have HQ : Hid (sameB f (fun _ => 0) 32 = false) := hq
  have A1 := andNot8 ⟨f 31, hf 31 (by decide)⟩
  have HDE : Hid (∀ w (u : Value), Glob w → Bs w u 32 (fun i => if i = 31 then f 31 % 128 else f i) → _) := fun w u hg hu => fDecode_32 c u (fun i => if i = 31 then f 31 % 128 else f i) hc w hg hu (fun i hi => by
    show (if i = 31 then f 31 % 128 else f i) < 256
    split
    · omega
    · exact hf i hi)
  rw [hlow] at HDE
  have hd : decV (modN c) (leN f 32 % 57896044618658097711785492504343953926634992332820282019728792003956564819968) = .tuple #[.agg #[.int .u64 ((limb 0 (leN f 32 % 57896044618658097711785492504343953926634992332820282019728792003956564819968) : Nat) : Int), .int .u64 ((limb 1 (leN f 32 % 57896044618658097711785492504343953926634992332820282019728792003956564819968) : Nat) : Int), .int .u64 ((limb 2 (leN f 32 % 57896044618658097711785492504343953926634992332820282019728792003956564819968) : Nat) : Int), .int .u64 ((limb 3 (leN f 32 % 57896044618658097711785492504343953926634992332820282019728792003956564819968) : Nat) : Int)], .int .i64 0] := by unfold decV; rw [if_pos hX]
  rw [hd] at HDE
  have HLI : Hid (∀ w, GlobC w → _) := fun w hg => lift_no c (leN f 32 % 57896044618658097711785492504343953926634992332820282019728792003956564819968) (decide (57896044618658097711785492504343953926634992332820282019728792003956564819968 ≤ leN f 32)) hc (lt_M c _ hX) hR w hg
  have hzp : (.agg #[.int .u64 ((limb 0 (0) : Nat) : Int), .int .u64 ((limb 1 (0) : Nat) : Int), .int .u64 ((limb 2 (0) : Nat) : Int), .int .u64 ((limb 3 (0) : Nat) : Int), .int .u64 ((limb 0 (0) : Nat) : Int), .int .u64 ((limb 1 (0) : Nat) : Int), .int .u64 ((limb 2 (0) : Nat) : Int), .int .u64 ((limb 3 (0) : Nat) : Int), .bool false] : Value) = .agg #[.int .u64 0, .int .u64 0, .int .u64 0, .int .u64 0, .int .u64 0, .int .u64 0, .int .u64 0, .int .u64 0, .bool false] := by rw [limb_zero, limb_zero, limb_zero, limb_zero]; rfl
  rw [hzp] at HLI ⊢
  clear hzp
  have A2 := and8 ⟨f 31, hf 31 (by decide)⟩
  have A3 : (((if f 31 < 128 then 0 else 128 : Nat) : Int) != 0) = decide (57896044618658097711785492504343953926634992332820282019728792003956564819968 ≤ leN f 32) := by
    by_cases k : f 31 < 128
    · rw [if_pos k, decide_eq_false (fun q => by have := htop.2 q; omega)]; rfl
    · rw [if_neg k, decide_eq_true (htop.1 (by omega))]; rfl
  obtain ⟨odd, eo⟩ : ∃ b : Bool, b = decide (57896044618658097711785492504343953926634992332820282019728792003956564819968 ≤ leN f 32) := ⟨_, rfl⟩
  rw [← eo] at A3 HLI
  obtain ⟨X, eX⟩ : ∃ X : Nat, X = leN f 32 % 57896044618658097711785492504343953926634992332820282019728792003956564819968 := ⟨_, rfl⟩
  rw [← eX] at HDE HLI
  obtain ⟨m31, e31⟩ : ∃ m : Nat, m = (if f 31 < 128 then 0 else 128) := ⟨_, rfl⟩
  dsimp only at A2
  rw [← e31] at A2 A3
  clear eo eX e31 hd htop hlow hR
  dsimp only at A1
  obtain ⟨l31, el31⟩ : ∃ m : Nat, m = f 31 % 128 := ⟨_, rfl⟩
  rw [← el31] at A1 HDE
  have HF : Hid (∀ i, i < 32 → f i < 256) := hf
  have HB : Hid (Bs w v 32 f) := hB
  clear hg hc hq h0 hX el31
  rcases hB with ⟨_, k0⟩ | ⟨a, cc, rfl, hc1, hc2, hc3, hc4⟩
  · cases k0
  have HCL : Hid (∀ w', Below w.heap.size w w' → _) := fun w' hb => clone_some 32 cc a f (by decide) w' (Nat.lt_of_lt_of_le hc3 hb.size) (fun i hi => by rw [hb.cell (p := a.add i) (by unfold Addr.add; split <;> exact hc3)]; exact hc4 i hi)
  have H31 : Hid (∀ w', Below w.heap.size w w' → w'.cell? (a.add 31) = some (.int .u8 ((f 31 : Nat) : Int))) := fun w' hb => by rw [hb.cell (p := a.add 31) (by unfold Addr.add; split <;> exact hc3)]; exact hc4 31 (by decide)
  clear hc1 hc2 hc3 hc4
  clear hf
  go_enter Tryz.func19, Tryz.ntmps19
  go_upto_region 1 with fail
  obtain ⟨w0, hw0⟩ : ∃ w0 : World, w0 = w.alloc (.cells #[.int .u64 0, .int .u64 0, .int .u64 0, .int .u64 0, .int .u64 0, .int .u64 0, .int .u64 0, .int .u64 0, .bool false] 26) := ⟨_, rfl⟩
  have br0 : Pt w0 w.heap.size 0 0 false := by rw [hw0]; exact Pt.zeroAt _ _ rfl
  have hbw0 : Below w.heap.size w w0 := by rw [hw0]; exact (Below.refl _ _).alloc (Nat.le_refl _) _
  rw [← hw0]
  clear hw0
  go_wp2_with fail
  refine (HIC.out _).mono ?_
  rintro e w1 ⟨rfl, hw1⟩
  rw [hw1]
  clear hw1 HIC
  go_wp2_with (first
    | (at_make; refine wpList_make_full _ rfl _ _ 34 rfl w0.heap.size 5 i0 (.int .u8 0) 1 Tryz.underlying34 HI.out HZ.out.1 HZ.out.2.1 .i64 .i64 32 32 32 rfl rfl rfl rfl ?c1 (by decide) (Nat.le_refl _) ?_)
    | go_in)
  case c1 => rw [HZ.out.2.2]; decide
  intro w5 hown hgrow
  obtain ⟨bS, _⟩ := own_blkB (f := fun _ => 0) hown (by intro i hi; simp [madeCells]; exact ⟨i, by simp [hi], by rw [Nat.mod_one]; rfl⟩) (by decide)
  have hbe : Below w0.heap.size w0 w5 := (Below.refl _ w0).grown hgrow (Nat.le_refl _) (fun j hj => by cases hj)
  have br5 := br0.belowAll hbe
  have hbw5 := bStep hbw0 hbe
  have HEQ := fun (_ : Unit) => bequal_32 _ w0.heap.size f HF.out w5 (HB.out.below hbw5) bS
  rw [HQ.out] at HEQ
  have HE := (show Hid _ from HEQ)
  clear hown hgrow hbe HEQ br0 hbw0 bS
  go_wp2_with fail
  refine (HE.out ()).mono ?_
  rintro e w6 ⟨rfl, hw6⟩
  rw [hw6]
  clear hw6 HE w6
  go_wp2_with fail
  refine (HCL.out _ hbw5).mono ?_
  rintro e w7 ⟨u, rfl, hown, hb7⟩
  obtain ⟨g, c7, rfl, hgl, hgs, c31, fS, HBs⟩ := own_last hown
  have br7 := br5.belowAll hb7
  have hbw7 := bStep hbw5 hb7
  have hgw : w.heap.size < g := Nat.lt_of_lt_of_le br5.lt hgl
  have HBS := (show Hid _ from HBs l31)
  clear hown HBs br5 hbw5 hb7 HCL HB
  go_upto_region 9 with fail
  obtain ⟨w8, hw8⟩ : ∃ y : World, y = w7.setCell ⟨g, 31, none⟩ (.int .u8 ((l31 : Nat) : Int)) := ⟨_, rfl⟩
  rw [← hw8] at HBS ⊢
  have br8 : Pt w8 w.heap.size 0 0 false := by rw [hw8]; exact br7.other (Nat.ne_of_lt hgw) _
  have hbw8 : Below w.heap.size w w8 := by rw [hw8]; exact hbw7.setCell (Nat.le_of_lt hgw) _
  clear hw8 br7 hbw7 c31 fS hgs hgl
  go_wp2_with fail
  refine (HDE.out _ _ (HG0.out.below hbw8).1 HBS.out).mono ?_
  rintro e w9 ⟨rfl, hb9⟩
  have br9 := (br8.belowAll hb9).alloc (.cells #[.int .u64 ((limb 0 (X) : Nat) : Int), .int .u64 ((limb 1 (X) : Nat) : Int), .int .u64 ((limb 2 (X) : Nat) : Int), .int .u64 ((limb 3 (X) : Nat) : Int)] 24)
  have bx9 : Blk (w9.alloc (.cells #[.int .u64 ((limb 0 (X) : Nat) : Int), .int .u64 ((limb 1 (X) : Nat) : Int), .int .u64 ((limb 2 (X) : Nat) : Int), .int .u64 ((limb 3 (X) : Nat) : Int)] 24)) 24 w9.heap.size (fun i => limb i X) := Blk.newAt _ _ _ (fun i => limb i X) rfl
  have hlt : w.heap.size < w9.heap.size := (br8.belowAll hb9).lt
  have hbw9 := bAlloc (bStep hbw8 hb9) (.cells #[.int .u64 ((limb 0 (X) : Nat) : Int), .int .u64 ((limb 1 (X) : Nat) : Int), .int .u64 ((limb 2 (X) : Nat) : Int), .int .u64 ((limb 3 (X) : Nat) : Int)] 24)
  clear br8 hbw8 hb9 HDE HBS
  go_upto_region 10 with fail
  obtain ⟨w10, hw10⟩ : ∃ y : World, y = w9.alloc (.cells #[.int .u64 ((limb 0 (X) : Nat) : Int), .int .u64 ((limb 1 (X) : Nat) : Int), .int .u64 ((limb 2 (X) : Nat) : Int), .int .u64 ((limb 3 (X) : Nat) : Int)] 24) := ⟨_, rfl⟩
  obtain ⟨N, hN⟩ : ∃ N, N = w9.heap.size := ⟨_, rfl⟩
  rw [← hw10] at br9 bx9 hbw9 ⊢
  rw [← hN] at bx9 hlt ⊢
  clear hw10 hN
  go_upto_region 12 with fail
  have HS0 : Hid (Below w.heap.size w w10.drew ∧ Blk w10.drew 24 N (fun i => limb i X) ∧ Pt w10.drew w.heap.size 0 0 false) := ⟨hbw9.drew, bx9.drew, br9.drew⟩
  refine wp_region_Z (fun w' => Below w.heap.size w w' ∧ Blk w' 24 N (fun i => limb i X)) 99 (by kernel_rfl) ?_
  refine wpZ_take (i := 0) (v := .int .i64 (c : Int)) 37 rfl rfl (by kernel_rfl) (by kernel_rfl) (by kernel_rfl) (Or.inr (by decide)) (fun _ _ _ h => h) (Or.inl ⟨by rfl, fun w hSw => by go_simp⟩) ⟨HS0.out.1, HS0.out.2.1⟩ ?_
  simp only [Act.put, List.setIfInBounds_toArray]
  dsimp only [List.set_cons_zero, List.set_cons_succ]
  refine wpZ_take (i := 1) (v := .agg #[.int .u64 ((limb 0 (X) : Nat) : Int), .int .u64 ((limb 1 (X) : Nat) : Int), .int .u64 ((limb 2 (X) : Nat) : Int), .int .u64 ((limb 3 (X) : Nat) : Int)]) 38 rfl rfl (by kernel_rfl) (by kernel_rfl) (by kernel_rfl) (Or.inr (by decide)) (fun _ _ _ h => h) (Or.inl ⟨by rfl, fun w hSw => by (have qq := hSw.2.cell; clear hSw; go_simp)⟩) ⟨HS0.out.1, HS0.out.2.1⟩ ?_
  simp only [Act.put, List.setIfInBounds_toArray]
  dsimp only [List.set_cons_zero, List.set_cons_succ]
  refine wpZ_take (i := 2) (v := .slice (some a) 32 cc) 39 rfl rfl (by kernel_rfl) (by kernel_rfl) (by kernel_rfl) (Or.inr (by decide)) (fun _ _ _ h => h) (Or.inl ⟨by rfl, fun w hSw => by go_simp⟩) ⟨HS0.out.1, HS0.out.2.1⟩ ?_
  simp only [Act.put, List.setIfInBounds_toArray]
  dsimp only [List.set_cons_zero, List.set_cons_succ]
  refine wpZ_take (i := 3) (v := .pointer (some (a.add 31))) 40 rfl rfl (by kernel_rfl) (by kernel_rfl) (by kernel_rfl) (Or.inr (by decide)) (fun _ _ _ h => h) (Or.inl ⟨by rfl, fun w hSw => by go_simp⟩) ⟨HS0.out.1, HS0.out.2.1⟩ ?_
  simp only [Act.put, List.setIfInBounds_toArray]
  dsimp only [List.set_cons_zero, List.set_cons_succ]
  refine wpZ_take (i := 4) (v := .int .u8 ((f 31 : Nat) : Int)) 41 rfl rfl (by kernel_rfl) (by kernel_rfl) (by kernel_rfl) (Or.inr (by decide)) (fun _ _ _ h => h) (Or.inl ⟨by rfl, fun w hSw => by (have qq := H31.out _ hSw.1; rw [add31] at qq; clear hSw; go_simp)⟩) ⟨HS0.out.1, HS0.out.2.1⟩ ?_
  simp only [Act.put, List.setIfInBounds_toArray]
  dsimp only [List.set_cons_zero, List.set_cons_succ]
  refine wpZ_take (i := 5) (v := .int .u8 ((m31 : Nat) : Int)) 42 rfl rfl (by kernel_rfl) (by kernel_rfl) (by kernel_rfl) (Or.inr (by decide)) (fun _ _ _ h => h) (Or.inl ⟨by rfl, fun w hSw => by go_simp⟩) ⟨HS0.out.1, HS0.out.2.1⟩ ?_
  simp only [Act.put, List.setIfInBounds_toArray]
  dsimp only [List.set_cons_zero, List.set_cons_succ]
  refine wpZ_take (i := 6) (v := .bool odd) 43 rfl rfl (by kernel_rfl) (by kernel_rfl) (by kernel_rfl) (Or.inr (by decide)) (fun _ _ _ h => h) (Or.inl ⟨by rfl, fun w hSw => by go_simp⟩) ⟨HS0.out.1, HS0.out.2.1⟩ ?_
  simp only [Act.put, List.setIfInBounds_toArray]
  dsimp only [List.set_cons_zero, List.set_cons_succ]
  refine wpZ_one (i := 7) (by kernel_rfl) rfl (fun K hK => ?_)
  go_simp
  refine (HLI.out w10.drew (HG0.out.below HS0.out.1)).mono ?_
  rintro e wL ⟨rfl, hbL⟩
  have hSL : Below w.heap.size w wL ∧ Blk wL 24 N (fun i => limb i X) := ⟨bStep HS0.out.1 hbL, HS0.out.2.1.belowAll hbL⟩
  have brL := HS0.out.2.2.belowAll hbL
  go_wp2_with fail
  refine hK.out _ _ (fun _ => hSL) ?_
  clear hK K
  refine wpZ_take (i := 8) (v := .agg #[.int .u64 0, .int .u64 0, .int .u64 0, .int .u64 0, .int .u64 0, .int .u64 0, .int .u64 0, .int .u64 0, .bool false]) 45 rfl rfl (by kernel_rfl) (by kernel_rfl) (by kernel_rfl) (Or.inr (by decide)) (fun _ _ _ h => h) (Or.inl ⟨by rfl, fun w hSw => by go_simp⟩) hSL ?_
  simp only [Act.put, List.setIfInBounds_toArray]
  dsimp only [List.set_cons_zero, List.set_cons_succ]
  refine wpZ_take (i := 9) (v := .int .i64 41) 46 rfl rfl (by kernel_rfl) (by kernel_rfl) (by kernel_rfl) (Or.inr (by decide)) (fun _ _ _ h => h) (Or.inl ⟨by rfl, fun w hSw => by go_simp⟩) hSL ?_
  simp only [Act.put, List.setIfInBounds_toArray]
  dsimp only [List.set_cons_zero, List.set_cons_succ]
  refine wpZ_one (i := 10) (by kernel_rfl) rfl (fun K hK => ?_)
  obtain ⟨r0, r1, r2, r3, r4, r5, r6, r7, r8, rf⟩ := brL.cells
  go_simp
  have hSM : Below w.heap.size w ((((((((((wL.setCell ⟨w.heap.size, 0, none⟩ (.int .u64 0)).setCell ⟨w.heap.size, 1, none⟩ (.int .u64 0)).setCell ⟨w.heap.size, 2, none⟩ (.int .u64 0)).setCell ⟨w.heap.size, 3, none⟩ (.int .u64 0)).setCell ⟨w.heap.size, 4, none⟩ (.int .u64 0)).setCell ⟨w.heap.size, 5, none⟩ (.int .u64 0)).setCell ⟨w.heap.size, 6, none⟩ (.int .u64 0)).setCell ⟨w.heap.size, 7, none⟩ (.int .u64 0)).setCell ⟨w.heap.size, 8, none⟩ (.bool false))) := bSet9 hSL.1 (Nat.le_refl _) _ _ _ _ _ _ _ _ _
  have bXM : Blk ((((((((((wL.setCell ⟨w.heap.size, 0, none⟩ (.int .u64 0)).setCell ⟨w.heap.size, 1, none⟩ (.int .u64 0)).setCell ⟨w.heap.size, 2, none⟩ (.int .u64 0)).setCell ⟨w.heap.size, 3, none⟩ (.int .u64 0)).setCell ⟨w.heap.size, 4, none⟩ (.int .u64 0)).setCell ⟨w.heap.size, 5, none⟩ (.int .u64 0)).setCell ⟨w.heap.size, 6, none⟩ (.int .u64 0)).setCell ⟨w.heap.size, 7, none⟩ (.int .u64 0)).setCell ⟨w.heap.size, 8, none⟩ (.bool false))) 24 N (fun i => limb i X) := blk9 hSL.2 (by omega) _ _ _ _ _ _ _ _ _
  refine hK.out _ _ (fun _ => ⟨hSM, bXM⟩) ?_
  clear hK K
  refine wpZ_take (i := 11) (v := .int .i64 41) 5 rfl rfl (by kernel_rfl) (by kernel_rfl) (by kernel_rfl) (Or.inr (by decide)) (fun _ _ _ h => h) (Or.inl ⟨by rfl, fun w hSw => by go_simp⟩) ⟨hSM, bXM⟩ ?_
  simp only [Act.put, List.setIfInBounds_toArray]
  dsimp only [List.set_cons_zero, List.set_cons_succ]
  refine wpZ_done (by kernel_rfl) ?_ _
  go_wp2
  refine bodyPost_ret (v := .tuple #[.agg #[.int .u64 0, .int .u64 0, .int .u64 0, .int .u64 0, .int .u64 0, .int .u64 0, .int .u64 0, .int .u64 0, .bool false], .int .i64 41]) (by simp [results, Tryz.results19, go_sem, r0, r1, r2, r3, r4, r5, r6, r7, r8]) rfl ⟨rfl, ?_⟩
  exact hSM

set_option maxHeartbeats 1000000 in
set_option maxRecDepth 20000 in
theorem decode_yes (c : Nat) (hc : c < 4) (v : Value) (f : Nat → Nat) (w : World) (hg : GlobC w) (hB : Bs w v 32 f) (hf : ∀ i, i < 32 → f i < 256) (h0 : ¬ leN f 32 = 0) (hX : leN f 32 % 57896044618658097711785492504343953926634992332820282019728792003956564819968 < modN c) (hR : hasR c (sqY c (leN f 32 % 57896044618658097711785492504343953926634992332820282019728792003956564819968))) :
    Calls Tryz.prog 19 #[.int .i64 (c : Int), v] w fun e w' => e = .returned (.tuple #[.agg #[.int .u64 ((limb 0 ((leN f 32 % 57896044618658097711785492504343953926634992332820282019728792003956564819968)) : Nat) : Int), .int .u64 ((limb 1 ((leN f 32 % 57896044618658097711785492504343953926634992332820282019728792003956564819968)) : Nat) : Int), .int .u64 ((limb 2 ((leN f 32 % 57896044618658097711785492504343953926634992332820282019728792003956564819968)) : Nat) : Int), .int .u64 ((limb 3 ((leN f 32 % 57896044618658097711785492504343953926634992332820282019728792003956564819968)) : Nat) : Int), .int .u64 ((limb 0 ((liftY c (leN f 32 % 57896044618658097711785492504343953926634992332820282019728792003956564819968) (decide (57896044618658097711785492504343953926634992332820282019728792003956564819968 ≤ leN f 32)))) : Nat) : Int), .int .u64 ((limb 1 ((liftY c (leN f 32 % 57896044618658097711785492504343953926634992332820282019728792003956564819968) (decide (57896044618658097711785492504343953926634992332820282019728792003956564819968 ≤ leN f 32)))) : Nat) : Int), .int .u64 ((limb 2 ((liftY c (leN f 32 % 57896044618658097711785492504343953926634992332820282019728792003956564819968) (decide (57896044618658097711785492504343953926634992332820282019728792003956564819968 ≤ leN f 32)))) : Nat) : Int), .int .u64 ((limb 3 ((liftY c (leN f 32 % 57896044618658097711785492504343953926634992332820282019728792003956564819968) (decide (57896044618658097711785492504343953926634992332820282019728792003956564819968 ≤ leN f 32)))) : Nat) : Int), .bool false], .int .i64 0]) ∧ Below w.heap.size w w' := by
  obtain ⟨i0, hi, hz0, hz1, hz2⟩ := byteInfo
  have HI := (show Hid _ from hi); have HZ := (show Hid _ from And.intro hz0 (And.intro hz1 hz2)); clear hi hz0 hz1 hz2
  have HG0 : Hid (GlobC w) := hg
  have HIC : Hid (∀ w, Calls Tryz.prog 27 #[.int .i64 (c : Int)] w fun e w' => e = .returned (.bool true) ∧ w' = w) := fun w => isCurve_in c hc w
  obtain ⟨htop, hlow⟩ := leN_top f hf
  have hq : sameB f (fun _ => 0) 32 = false := decide_eq_false (fun h => h0 ((leN_zero f 32).2 h))
  have HQ : Hid (sameB f (fun _ => 0) 32 = false) := hq
  have A1 := andNot8 ⟨f 31, hf 31 (by decide)⟩
  have HDE : Hid (∀ w (u : Value), Glob w → Bs w u 32 (fun i => if i = 31 then f 31 % 128 else f i) → _) := fun w u hg hu => fDecode_32 c u (fun i => if i = 31 then f 31 % 128 else f i) hc w hg hu (fun i hi => by
    show (if i = 31 then f 31 % 128 else f i) < 256
    split
    · omega
    · exact hf i hi)
  rw [hlow] at HDE
  have hd : decV (modN c) (leN f 32 % 57896044618658097711785492504343953926634992332820282019728792003956564819968) = .tuple #[.agg #[.int .u64 ((limb 0 (leN f 32 % 57896044618658097711785492504343953926634992332820282019728792003956564819968) : Nat) : Int), .int .u64 ((limb 1 (leN f 32 % 57896044618658097711785492504343953926634992332820282019728792003956564819968) : Nat) : Int), .int .u64 ((limb 2 (leN f 32 % 57896044618658097711785492504343953926634992332820282019728792003956564819968) : Nat) : Int), .int .u64 ((limb 3 (leN f 32 % 57896044618658097711785492504343953926634992332820282019728792003956564819968) : Nat) : Int)], .int .i64 0] := by unfold decV; rw [if_pos hX]
  rw [hd] at HDE
  have HLI : Hid (∀ w, GlobC w → _) := fun w hg => lift_yes c (leN f 32 % 57896044618658097711785492504343953926634992332820282019728792003956564819968) (decide (57896044618658097711785492504343953926634992332820282019728792003956564819968 ≤ leN f 32)) hc (lt_M c _ hX) hR w hg
  have A2 := and8 ⟨f 31, hf 31 (by decide)⟩
  have A3 : (((if f 31 < 128 then 0 else 128 : Nat) : Int) != 0) = decide (57896044618658097711785492504343953926634992332820282019728792003956564819968 ≤ leN f 32) := by
    by_cases k : f 31 < 128
    · rw [if_pos k, decide_eq_false (fun q => by have := htop.2 q; omega)]; rfl
    · rw [if_neg k, decide_eq_true (htop.1 (by omega))]; rfl
  obtain ⟨odd, eo⟩ : ∃ b : Bool, b = decide (57896044618658097711785492504343953926634992332820282019728792003956564819968 ≤ leN f 32) := ⟨_, rfl⟩
  rw [← eo] at A3 HLI ⊢
  obtain ⟨X, eX⟩ : ∃ X : Nat, X = leN f 32 % 57896044618658097711785492504343953926634992332820282019728792003956564819968 := ⟨_, rfl⟩
  rw [← eX] at HDE HLI ⊢
  obtain ⟨Y, eY⟩ : ∃ Y : Nat, Y = liftY c X odd := ⟨_, rfl⟩
  rw [← eY] at HLI ⊢
  clear eY
  obtain ⟨m31, e31⟩ : ∃ m : Nat, m = (if f 31 < 128 then 0 else 128) := ⟨_, rfl⟩
  dsimp only at A2
  rw [← e31] at A2 A3
  clear eo eX e31 hd htop hlow hR
  dsimp only at A1
  obtain ⟨l31, el31⟩ : ∃ m : Nat, m = f 31 % 128 := ⟨_, rfl⟩
  rw [← el31] at A1 HDE
  have HF : Hid (∀ i, i < 32 → f i < 256) := hf
  have HB : Hid (Bs w v 32 f) := hB
  clear hg hc hq h0 hX el31
  rcases hB with ⟨_, k0⟩ | ⟨a, cc, rfl, hc1, hc2, hc3, hc4⟩
  · cases k0
  have HCL : Hid (∀ w', Below w.heap.size w w' → _) := fun w' hb => clone_some 32 cc a f (by decide) w' (Nat.lt_of_lt_of_le hc3 hb.size) (fun i hi => by rw [hb.cell (p := a.add i) (by unfold Addr.add; split <;> exact hc3)]; exact hc4 i hi)
  have H31 : Hid (∀ w', Below w.heap.size w w' → w'.cell? (a.add 31) = some (.int .u8 ((f 31 : Nat) : Int))) := fun w' hb => by rw [hb.cell (p := a.add 31) (by unfold Addr.add; split <;> exact hc3)]; exact hc4 31 (by decide)
  clear hc1 hc2 hc3 hc4
  clear hf
  go_enter Tryz.func19, Tryz.ntmps19
  go_upto_region 1 with fail
  obtain ⟨w0, hw0⟩ : ∃ w0 : World, w0 = w.alloc (.cells #[.int .u64 0, .int .u64 0, .int .u64 0, .int .u64 0, .int .u64 0, .int .u64 0, .int .u64 0, .int .u64 0, .bool false] 26) := ⟨_, rfl⟩
  have br0 : Pt w0 w.heap.size 0 0 false := by rw [hw0]; exact Pt.zeroAt _ _ rfl
  have hbw0 : Below w.heap.size w w0 := by rw [hw0]; exact (Below.refl _ _).alloc (Nat.le_refl _) _
  rw [← hw0]
  clear hw0
  go_wp2_with fail
  refine (HIC.out _).mono ?_
  rintro e w1 ⟨rfl, hw1⟩
  rw [hw1]
  clear hw1 HIC
  go_wp2_with (first
    | (at_make; refine wpList_make_full _ rfl _ _ 34 rfl w0.heap.size 5 i0 (.int .u8 0) 1 Tryz.underlying34 HI.out HZ.out.1 HZ.out.2.1 .i64 .i64 32 32 32 rfl rfl rfl rfl ?c1 (by decide) (Nat.le_refl _) ?_)
    | go_in)
  case c1 => rw [HZ.out.2.2]; decide
  intro w5 hown hgrow
  obtain ⟨bS, _⟩ := own_blkB (f := fun _ => 0) hown (by intro i hi; simp [madeCells]; exact ⟨i, by simp [hi], by rw [Nat.mod_one]; rfl⟩) (by decide)
  have hbe : Below w0.heap.size w0 w5 := (Below.refl _ w0).grown hgrow (Nat.le_refl _) (fun j hj => by cases hj)
  have br5 := br0.belowAll hbe
  have hbw5 := bStep hbw0 hbe
  have HEQ := fun (_ : Unit) => bequal_32 _ w0.heap.size f HF.out w5 (HB.out.below hbw5) bS
  rw [HQ.out] at HEQ
  have HE := (show Hid _ from HEQ)
  clear hown hgrow hbe HEQ br0 hbw0 bS
  go_wp2_with fail
  refine (HE.out ()).mono ?_
  rintro e w6 ⟨rfl, hw6⟩
  rw [hw6]
  clear hw6 HE w6
  go_wp2_with fail
  refine (HCL.out _ hbw5).mono ?_
  rintro e w7 ⟨u, rfl, hown, hb7⟩
  obtain ⟨g, c7, rfl, hgl, hgs, c31, fS, HBs⟩ := own_last hown
  have br7 := br5.belowAll hb7
  have hbw7 := bStep hbw5 hb7
  have hgw : w.heap.size < g := Nat.lt_of_lt_of_le br5.lt hgl
  have HBS := (show Hid _ from HBs l31)
  clear hown HBs br5 hbw5 hb7 HCL HB
  go_upto_region 9 with fail
  obtain ⟨w8, hw8⟩ : ∃ y : World, y = w7.setCell ⟨g, 31, none⟩ (.int .u8 ((l31 : Nat) : Int)) := ⟨_, rfl⟩
  rw [← hw8] at HBS ⊢
  have br8 : Pt w8 w.heap.size 0 0 false := by rw [hw8]; exact br7.other (Nat.ne_of_lt hgw) _
  have hbw8 : Below w.heap.size w w8 := by rw [hw8]; exact hbw7.setCell (Nat.le_of_lt hgw) _
  clear hw8 br7 hbw7 c31 fS hgs hgl
  go_wp2_with fail
  refine (HDE.out _ _ (HG0.out.below hbw8).1 HBS.out).mono ?_
  rintro e w9 ⟨rfl, hb9⟩
  have br9 := (br8.belowAll hb9).alloc (.cells #[.int .u64 ((limb 0 (X) : Nat) : Int), .int .u64 ((limb 1 (X) : Nat) : Int), .int .u64 ((limb 2 (X) : Nat) : Int), .int .u64 ((limb 3 (X) : Nat) : Int)] 24)
  have bx9 : Blk (w9.alloc (.cells #[.int .u64 ((limb 0 (X) : Nat) : Int), .int .u64 ((limb 1 (X) : Nat) : Int), .int .u64 ((limb 2 (X) : Nat) : Int), .int .u64 ((limb 3 (X) : Nat) : Int)] 24)) 24 w9.heap.size (fun i => limb i X) := Blk.newAt _ _ _ (fun i => limb i X) rfl
  have hlt : w.heap.size < w9.heap.size := (br8.belowAll hb9).lt
  have hbw9 := bAlloc (bStep hbw8 hb9) (.cells #[.int .u64 ((limb 0 (X) : Nat) : Int), .int .u64 ((limb 1 (X) : Nat) : Int), .int .u64 ((limb 2 (X) : Nat) : Int), .int .u64 ((limb 3 (X) : Nat) : Int)] 24)
  clear br8 hbw8 hb9 HDE HBS
  go_upto_region 10 with fail
  obtain ⟨w10, hw10⟩ : ∃ y : World, y = w9.alloc (.cells #[.int .u64 ((limb 0 (X) : Nat) : Int), .int .u64 ((limb 1 (X) : Nat) : Int), .int .u64 ((limb 2 (X) : Nat) : Int), .int .u64 ((limb 3 (X) : Nat) : Int)] 24) := ⟨_, rfl⟩
  obtain ⟨N, hN⟩ : ∃ N, N = w9.heap.size := ⟨_, rfl⟩
  rw [← hw10] at br9 bx9 hbw9 ⊢
  rw [← hN] at bx9 hlt ⊢
  clear hw10 hN
  go_upto_region 12 with fail
  have HS0 : Hid (Below w.heap.size w w10.drew ∧ Blk w10.drew 24 N (fun i => limb i X) ∧ Pt w10.drew w.heap.size 0 0 false) := ⟨hbw9.drew, bx9.drew, br9.drew⟩
  refine wp_region_Z (fun w' => Below w.heap.size w w' ∧ Blk w' 24 N (fun i => limb i X)) 99 (by kernel_rfl) ?_
  refine wpZ_take (i := 0) (v := .int .i64 (c : Int)) 37 rfl rfl (by kernel_rfl) (by kernel_rfl) (by kernel_rfl) (Or.inr (by decide)) (fun _ _ _ h => h) (Or.inl ⟨by rfl, fun w hSw => by go_simp⟩) ⟨HS0.out.1, HS0.out.2.1⟩ ?_
  simp only [Act.put, List.setIfInBounds_toArray]
  dsimp only [List.set_cons_zero, List.set_cons_succ]
  refine wpZ_take (i := 1) (v := .agg #[.int .u64 ((limb 0 (X) : Nat) : Int), .int .u64 ((limb 1 (X) : Nat) : Int), .int .u64 ((limb 2 (X) : Nat) : Int), .int .u64 ((limb 3 (X) : Nat) : Int)]) 38 rfl rfl (by kernel_rfl) (by kernel_rfl) (by kernel_rfl) (Or.inr (by decide)) (fun _ _ _ h => h) (Or.inl ⟨by rfl, fun w hSw => by (have qq := hSw.2.cell; clear hSw; go_simp)⟩) ⟨HS0.out.1, HS0.out.2.1⟩ ?_
  simp only [Act.put, List.setIfInBounds_toArray]
  dsimp only [List.set_cons_zero, List.set_cons_succ]
  refine wpZ_take (i := 2) (v := .slice (some a) 32 cc) 39 rfl rfl (by kernel_rfl) (by kernel_rfl) (by kernel_rfl) (Or.inr (by decide)) (fun _ _ _ h => h) (Or.inl ⟨by rfl, fun w hSw => by go_simp⟩) ⟨HS0.out.1, HS0.out.2.1⟩ ?_
  simp only [Act.put, List.setIfInBounds_toArray]
  dsimp only [List.set_cons_zero, List.set_cons_succ]
  refine wpZ_take (i := 3) (v := .pointer (some (a.add 31))) 40 rfl rfl (by kernel_rfl) (by kernel_rfl) (by kernel_rfl) (Or.inr (by decide)) (fun _ _ _ h => h) (Or.inl ⟨by rfl, fun w hSw => by go_simp⟩) ⟨HS0.out.1, HS0.out.2.1⟩ ?_
  simp only [Act.put, List.setIfInBounds_toArray]
  dsimp only [List.set_cons_zero, List.set_cons_succ]
  refine wpZ_take (i := 4) (v := .int .u8 ((f 31 : Nat) : Int)) 41 rfl rfl (by kernel_rfl) (by kernel_rfl) (by kernel_rfl) (Or.inr (by decide)) (fun _ _ _ h => h) (Or.inl ⟨by rfl, fun w hSw => by (have qq := H31.out _ hSw.1; rw [add31] at qq; clear hSw; go_simp)⟩) ⟨HS0.out.1, HS0.out.2.1⟩ ?_
  simp only [Act.put, List.setIfInBounds_toArray]
  dsimp only [List.set_cons_zero, List.set_cons_succ]
  refine wpZ_take (i := 5) (v := .int .u8 ((m31 : Nat) : Int)) 42 rfl rfl (by kernel_rfl) (by kernel_rfl) (by kernel_rfl) (Or.inr (by decide)) (fun _ _ _ h => h) (Or.inl ⟨by rfl, fun w hSw => by go_simp⟩) ⟨HS0.out.1, HS0.out.2.1⟩ ?_
  simp only [Act.put, List.setIfInBounds_toArray]
  dsimp only [List.set_cons_zero, List.set_cons_succ]
  refine wpZ_take (i := 6) (v := .bool odd) 43 rfl rfl (by kernel_rfl) (by kernel_rfl) (by kernel_rfl) (Or.inr (by decide)) (fun _ _ _ h => h) (Or.inl ⟨by rfl, fun w hSw => by go_simp⟩) ⟨HS0.out.1, HS0.out.2.1⟩ ?_
  simp only [Act.put, List.setIfInBounds_toArray]
  dsimp only [List.set_cons_zero, List.set_cons_succ]
  refine wpZ_one (i := 7) (by kernel_rfl) rfl (fun K hK => ?_)
  go_simp
  refine (HLI.out w10.drew (HG0.out.below HS0.out.1)).mono ?_
  rintro e wL ⟨rfl, hbL⟩
  have hSL : Below w.heap.size w wL ∧ Blk wL 24 N (fun i => limb i X) := ⟨bStep HS0.out.1 hbL, HS0.out.2.1.belowAll hbL⟩
  have brL := HS0.out.2.2.belowAll hbL
  go_wp2_with fail
  refine hK.out _ _ (fun _ => hSL) ?_
  clear hK K
  refine wpZ_take (i := 8) (v := .agg #[.int .u64 ((limb 0 (X) : Nat) : Int), .int .u64 ((limb 1 (X) : Nat) : Int), .int .u64 ((limb 2 (X) : Nat) : Int), .int .u64 ((limb 3 (X) : Nat) : Int), .int .u64 ((limb 0 (Y) : Nat) : Int), .int .u64 ((limb 1 (Y) : Nat) : Int), .int .u64 ((limb 2 (Y) : Nat) : Int), .int .u64 ((limb 3 (Y) : Nat) : Int), .bool false]) 45 rfl rfl (by kernel_rfl) (by kernel_rfl) (by kernel_rfl) (Or.inr (by decide)) (fun _ _ _ h => h) (Or.inl ⟨by rfl, fun w hSw => by go_simp⟩) hSL ?_
  simp only [Act.put, List.setIfInBounds_toArray]
  dsimp only [List.set_cons_zero, List.set_cons_succ]
  refine wpZ_take (i := 9) (v := .int .i64 0) 46 rfl rfl (by kernel_rfl) (by kernel_rfl) (by kernel_rfl) (Or.inr (by decide)) (fun _ _ _ h => h) (Or.inl ⟨by rfl, fun w hSw => by go_simp⟩) hSL ?_
  simp only [Act.put, List.setIfInBounds_toArray]
  dsimp only [List.set_cons_zero, List.set_cons_succ]
  refine wpZ_one (i := 10) (by kernel_rfl) rfl (fun K hK => ?_)
  obtain ⟨r0, r1, r2, r3, r4, r5, r6, r7, r8, rf⟩ := brL.cells
  go_simp
  have hSM : Below w.heap.size w ((((((((((wL.setCell ⟨w.heap.size, 0, none⟩ (.int .u64 ((limb 0 X : Nat) : Int))).setCell ⟨w.heap.size, 1, none⟩ (.int .u64 ((limb 1 X : Nat) : Int))).setCell ⟨w.heap.size, 2, none⟩ (.int .u64 ((limb 2 X : Nat) : Int))).setCell ⟨w.heap.size, 3, none⟩ (.int .u64 ((limb 3 X : Nat) : Int))).setCell ⟨w.heap.size, 4, none⟩ (.int .u64 ((limb 0 Y : Nat) : Int))).setCell ⟨w.heap.size, 5, none⟩ (.int .u64 ((limb 1 Y : Nat) : Int))).setCell ⟨w.heap.size, 6, none⟩ (.int .u64 ((limb 2 Y : Nat) : Int))).setCell ⟨w.heap.size, 7, none⟩ (.int .u64 ((limb 3 Y : Nat) : Int))).setCell ⟨w.heap.size, 8, none⟩ (.bool false))) := bSet9 hSL.1 (Nat.le_refl _) _ _ _ _ _ _ _ _ _
  have bXM : Blk ((((((((((wL.setCell ⟨w.heap.size, 0, none⟩ (.int .u64 ((limb 0 X : Nat) : Int))).setCell ⟨w.heap.size, 1, none⟩ (.int .u64 ((limb 1 X : Nat) : Int))).setCell ⟨w.heap.size, 2, none⟩ (.int .u64 ((limb 2 X : Nat) : Int))).setCell ⟨w.heap.size, 3, none⟩ (.int .u64 ((limb 3 X : Nat) : Int))).setCell ⟨w.heap.size, 4, none⟩ (.int .u64 ((limb 0 Y : Nat) : Int))).setCell ⟨w.heap.size, 5, none⟩ (.int .u64 ((limb 1 Y : Nat) : Int))).setCell ⟨w.heap.size, 6, none⟩ (.int .u64 ((limb 2 Y : Nat) : Int))).setCell ⟨w.heap.size, 7, none⟩ (.int .u64 ((limb 3 Y : Nat) : Int))).setCell ⟨w.heap.size, 8, none⟩ (.bool false))) 24 N (fun i => limb i X) := blk9 hSL.2 (by omega) _ _ _ _ _ _ _ _ _
  refine hK.out _ _ (fun _ => ⟨hSM, bXM⟩) ?_
  clear hK K
  refine wpZ_take (i := 11) (v := .int .i64 0) 5 rfl rfl (by kernel_rfl) (by kernel_rfl) (by kernel_rfl) (Or.inr (by decide)) (fun _ _ _ h => h) (Or.inl ⟨by rfl, fun w hSw => by go_simp⟩) ⟨hSM, bXM⟩ ?_
  simp only [Act.put, List.setIfInBounds_toArray]
  dsimp only [List.set_cons_zero, List.set_cons_succ]
  refine wpZ_done (by kernel_rfl) ?_ _
  go_wp2
  refine bodyPost_ret (v := .tuple #[.agg #[.int .u64 ((limb 0 (X) : Nat) : Int), .int .u64 ((limb 1 (X) : Nat) : Int), .int .u64 ((limb 2 (X) : Nat) : Int), .int .u64 ((limb 3 (X) : Nat) : Int), .int .u64 ((limb 0 (Y) : Nat) : Int), .int .u64 ((limb 1 (Y) : Nat) : Int), .int .u64 ((limb 2 (Y) : Nat) : Int), .int .u64 ((limb 3 (Y) : Nat) : Int), .bool false], .int .i64 0]) (by simp [results, Tryz.results19, go_sem, r0, r1, r2, r3, r4, r5, r6, r7, r8]) rfl ⟨rfl, ?_⟩
  exact hSM

end Go.Proofs.YthkajdmcmodklaaGreatDoor
