/- The reference's iv, rows, word. -/
import Derived.Test.YtolaofoffakddaaDoorB4
import Derived.Test.YtolaofoffakddaaDoorB8
import Derived.Test.YtolaofoffakddaaDoorB11
import Derived.Test.YtolaofoffakddaaDoorY1
namespace Go.Proofs.YtolaofoffakddaaDoor
open Go.RowKit

set_option maxHeartbeats 2000000 in
/-- The reference's first words. -/
theorem riv_any (w : World) : Calls Tryd.prog 15 #[] w fun e w' => e = .returned (.agg #[.int .u64 ((ivW 0 : Nat) : Int), .int .u64 ((ivW 1 : Nat) : Int), .int .u64 ((ivW 2 : Nat) : Int), .int .u64 ((ivW 3 : Nat) : Int), .int .u64 ((ivW 4 : Nat) : Int), .int .u64 ((ivW 5 : Nat) : Int), .int .u64 ((ivW 6 : Nat) : Int), .int .u64 ((ivW 7 : Nat) : Int)]) ∧ Below w.heap.size w w' := by
  have HV : Hid ((.agg #[.int .u64 7640891576956012808, .int .u64 13503953896175478587, .int .u64 4354685564936845355, .int .u64 11912009170470909681, .int .u64 5840696475078001361, .int .u64 11170449401992604703, .int .u64 2270897969802886507, .int .u64 6620516959819538809] : Value) = .agg #[.int .u64 ((ivW 0 : Nat) : Int), .int .u64 ((ivW 1 : Nat) : Int), .int .u64 ((ivW 2 : Nat) : Int), .int .u64 ((ivW 3 : Nat) : Int), .int .u64 ((ivW 4 : Nat) : Int), .int .u64 ((ivW 5 : Nat) : Int), .int .u64 ((ivW 6 : Nat) : Int), .int .u64 ((ivW 7 : Nat) : Int)]) := by
    show _ = _
    rfl
  go_enter Tryd.func15, Tryd.ntmps15
  go_wp2
  refine bodyPost_ret (v := .agg #[.int .u64 7640891576956012808, .int .u64 13503953896175478587, .int .u64 4354685564936845355, .int .u64 11912009170470909681, .int .u64 5840696475078001361, .int .u64 11170449401992604703, .int .u64 2270897969802886507, .int .u64 6620516959819538809]) (by simp [results, Tryd.results15, go_sem]) rfl ⟨by rw [HV.out], ?_⟩
  repeat (first | with_reducible exact Below.refl _ _ | with_reducible refine Below.alloc ?_ (by first | omega | (simp; omega) | simp) _ | with_reducible refine Below.setCell ?_ (by first | omega | (simp; omega) | simp) _)

/-- The reference's rows, as cells. -/
def rowL : List Value := (List.range 160).map (fun k => Value.int .i64 ((sig (k / 16) (k % 16) : Nat) : Int))
theorem rowL_len : rowL.length = 160 := by simp [rowL]
theorem rowL_get (r i : Nat) (hr : r < 10) (hi : i < 16) : rowL[r * 16 + i]? = some (.int .i64 ((sig r i : Nat) : Int)) := by
  have h1 : r * 16 + i < 160 := by omega
  simp only [rowL, List.getElem?_map, List.getElem?_range h1, Option.map_some]
  rw [show (r * 16 + i) / 16 = r from by omega, show (r * 16 + i) % 16 = i from by omega]
theorem rowL_one : ∀ v ∈ rowL, v.oneCell' = true := by
  intro v hv
  simp only [rowL, List.mem_map] at hv
  obtain ⟨k, _, rfl⟩ := hv
  rfl
theorem build_rows (w : World) : (Instr.build 54 #[(0, .agg #[.int .i64 0, .int .i64 1, .int .i64 2, .int .i64 3, .int .i64 4, .int .i64 5, .int .i64 6, .int .i64 7, .int .i64 8, .int .i64 9, .int .i64 10, .int .i64 11, .int .i64 12, .int .i64 13, .int .i64 14, .int .i64 15]), (1, .agg #[.int .i64 14, .int .i64 10, .int .i64 4, .int .i64 8, .int .i64 9, .int .i64 15, .int .i64 13, .int .i64 6, .int .i64 1, .int .i64 12, .int .i64 0, .int .i64 2, .int .i64 11, .int .i64 7, .int .i64 5, .int .i64 3]), (2, .agg #[.int .i64 11, .int .i64 8, .int .i64 12, .int .i64 0, .int .i64 5, .int .i64 2, .int .i64 15, .int .i64 13, .int .i64 10, .int .i64 14, .int .i64 3, .int .i64 6, .int .i64 7, .int .i64 1, .int .i64 9, .int .i64 4]), (3, .agg #[.int .i64 7, .int .i64 9, .int .i64 3, .int .i64 1, .int .i64 13, .int .i64 12, .int .i64 11, .int .i64 14, .int .i64 2, .int .i64 6, .int .i64 5, .int .i64 10, .int .i64 4, .int .i64 0, .int .i64 15, .int .i64 8]), (4, .agg #[.int .i64 9, .int .i64 0, .int .i64 5, .int .i64 7, .int .i64 2, .int .i64 4, .int .i64 10, .int .i64 15, .int .i64 14, .int .i64 1, .int .i64 11, .int .i64 12, .int .i64 6, .int .i64 8, .int .i64 3, .int .i64 13]), (5, .agg #[.int .i64 2, .int .i64 12, .int .i64 6, .int .i64 10, .int .i64 0, .int .i64 11, .int .i64 8, .int .i64 3, .int .i64 4, .int .i64 13, .int .i64 7, .int .i64 5, .int .i64 15, .int .i64 14, .int .i64 1, .int .i64 9]), (6, .agg #[.int .i64 12, .int .i64 5, .int .i64 1, .int .i64 15, .int .i64 14, .int .i64 13, .int .i64 4, .int .i64 10, .int .i64 0, .int .i64 7, .int .i64 6, .int .i64 3, .int .i64 9, .int .i64 2, .int .i64 8, .int .i64 11]), (7, .agg #[.int .i64 13, .int .i64 11, .int .i64 7, .int .i64 14, .int .i64 12, .int .i64 1, .int .i64 3, .int .i64 9, .int .i64 5, .int .i64 0, .int .i64 15, .int .i64 4, .int .i64 8, .int .i64 6, .int .i64 2, .int .i64 10]), (8, .agg #[.int .i64 6, .int .i64 15, .int .i64 14, .int .i64 9, .int .i64 11, .int .i64 3, .int .i64 0, .int .i64 8, .int .i64 12, .int .i64 2, .int .i64 13, .int .i64 7, .int .i64 1, .int .i64 4, .int .i64 10, .int .i64 5]), (9, .agg #[.int .i64 10, .int .i64 2, .int .i64 8, .int .i64 4, .int .i64 7, .int .i64 6, .int .i64 1, .int .i64 5, .int .i64 15, .int .i64 11, .int .i64 9, .int .i64 14, .int .i64 3, .int .i64 12, .int .i64 13, .int .i64 0])]).run Tryd.prog w = .ok (.agg rowL.toArray) w := by kernel_rfl
theorem zero160 (w : World) : (zeroValue 54).run Tryd.prog w = .ok (.agg (Array.replicate 160 (.int .i64 0))) w := by kernel_rfl
theorem info160 : (Tryd.prog.info? 54).map (·.size) = some 160 := by kernel_rfl

theorem BlkV.block_eq {w : World} {t : TypeId} {b n : Nat} {g : Nat → Value} {L : List Value} (h : BlkV w t b n g) (hl : L.length = n) (hg : ∀ i, i < n → L[i]? = some (g i)) : w.heap[b]? = some (.cells L.toArray t) := by
  obtain ⟨c, hc, hs, hf⟩ := h
  have : c = L.toArray := by
    apply Array.ext_getElem?
    intro i
    by_cases hi : i < n
    · rw [hf i hi]; simp [hg i hi]
    · rw [Array.getElem?_eq_none (by omega), Array.getElem?_eq_none (by simp; omega)]
  rw [hc, this]

set_option maxHeartbeats 4000000 in
set_option maxRecDepth 20000 in
/-- The reference's rows. -/
theorem rrows_any (w : World) : Calls Tryd.prog 21 #[] w fun e w' => e = .returned (.agg rowL.toArray) ∧ Below w.heap.size w w' := by
  have HB := (show Hid _ from build_rows)
  have ZV := zero160
  obtain ⟨Zs, eZ⟩ : ∃ Zs : Array Value, Zs = Array.replicate 160 (.int .i64 0) := ⟨_, rfl⟩
  rw [← eZ] at ZV
  have bZ : BlkV (w.alloc (.cells Zs 54)) 54 w.heap.size 160 (fun _ => .int .i64 0) := BlkV.newAt _ _ _ 160 _ _ rfl (by rw [eZ]; simp) (fun i hi => by rw [eZ]; simp [hi])
  have tZ : (w.alloc (.cells Zs 54)).there w.heap.size 0 rowL.toArray.size := fun j hj => by
    rw [List.size_toArray, rowL_len] at hj
    exact ⟨by rw [bZ.cell (0 + j) (by omega)]; rfl, bZ.frozen _⟩
  have b1 := (BlkV.setCells rowL 0 _ _ bZ (by rw [rowL_len]; decide)).congr (g' := fun i => rowL.getD i undef) (fun i hi => by
    rw [rowL_len, if_pos (by omega), Nat.sub_zero, List.getD_eq_getElem?_getD, List.getD_eq_getElem?_getD, List.getElem?_eq_getElem (by rw [rowL_len]; exact hi)]; rfl)
  have hb1 : Below w.heap.size w ((w.alloc (.cells Zs 54)).setCells w.heap.size 0 rowL) := belowSetCells (Nat.le_refl _) _ _ _ ((Below.refl _ _).alloc (Nat.le_refl _) _)
  have hh := b1.block_eq (L := rowL) rowL_len (fun i hi => by rw [List.getD_eq_getElem?_getD, List.getElem?_eq_getElem (by rw [rowL_len]; exact hi)]; rfl)
  have i160 : (Tryd.prog.info? 54).map (·.size) = some rowL.toArray.size := by rw [List.size_toArray, rowL_len]; exact info160
  have one := rowL_one
  obtain ⟨Lb, eLb⟩ : ∃ Lb, Lb = rowL := ⟨_, rfl⟩
  rw [← eLb] at HB tZ hb1 hh i160 one ⊢
  have HTZ := (show Hid _ from tZ); have HI := (show Hid _ from i160); have HO := (show Hid _ from one); have HH := (show Hid _ from hh); have HBL := (show Hid _ from hb1)
  clear eZ bZ tZ b1 eLb i160 one hh hb1
  go_enter Tryd.func21, Tryd.ntmps21
  go_wp2_with (first
    | (refine wpList_build rfl 54 _ rfl #[(0, .agg #[.int .i64 0, .int .i64 1, .int .i64 2, .int .i64 3, .int .i64 4, .int .i64 5, .int .i64 6, .int .i64 7, .int .i64 8, .int .i64 9, .int .i64 10, .int .i64 11, .int .i64 12, .int .i64 13, .int .i64 14, .int .i64 15]), (1, .agg #[.int .i64 14, .int .i64 10, .int .i64 4, .int .i64 8, .int .i64 9, .int .i64 15, .int .i64 13, .int .i64 6, .int .i64 1, .int .i64 12, .int .i64 0, .int .i64 2, .int .i64 11, .int .i64 7, .int .i64 5, .int .i64 3]), (2, .agg #[.int .i64 11, .int .i64 8, .int .i64 12, .int .i64 0, .int .i64 5, .int .i64 2, .int .i64 15, .int .i64 13, .int .i64 10, .int .i64 14, .int .i64 3, .int .i64 6, .int .i64 7, .int .i64 1, .int .i64 9, .int .i64 4]), (3, .agg #[.int .i64 7, .int .i64 9, .int .i64 3, .int .i64 1, .int .i64 13, .int .i64 12, .int .i64 11, .int .i64 14, .int .i64 2, .int .i64 6, .int .i64 5, .int .i64 10, .int .i64 4, .int .i64 0, .int .i64 15, .int .i64 8]), (4, .agg #[.int .i64 9, .int .i64 0, .int .i64 5, .int .i64 7, .int .i64 2, .int .i64 4, .int .i64 10, .int .i64 15, .int .i64 14, .int .i64 1, .int .i64 11, .int .i64 12, .int .i64 6, .int .i64 8, .int .i64 3, .int .i64 13]), (5, .agg #[.int .i64 2, .int .i64 12, .int .i64 6, .int .i64 10, .int .i64 0, .int .i64 11, .int .i64 8, .int .i64 3, .int .i64 4, .int .i64 13, .int .i64 7, .int .i64 5, .int .i64 15, .int .i64 14, .int .i64 1, .int .i64 9]), (6, .agg #[.int .i64 12, .int .i64 5, .int .i64 1, .int .i64 15, .int .i64 14, .int .i64 13, .int .i64 4, .int .i64 10, .int .i64 0, .int .i64 7, .int .i64 6, .int .i64 3, .int .i64 9, .int .i64 2, .int .i64 8, .int .i64 11]), (7, .agg #[.int .i64 13, .int .i64 11, .int .i64 7, .int .i64 14, .int .i64 12, .int .i64 1, .int .i64 3, .int .i64 9, .int .i64 5, .int .i64 0, .int .i64 15, .int .i64 4, .int .i64 8, .int .i64 6, .int .i64 2, .int .i64 10]), (8, .agg #[.int .i64 6, .int .i64 15, .int .i64 14, .int .i64 9, .int .i64 11, .int .i64 3, .int .i64 0, .int .i64 8, .int .i64 12, .int .i64 2, .int .i64 13, .int .i64 7, .int .i64 1, .int .i64 4, .int .i64 10, .int .i64 5]), (9, .agg #[.int .i64 10, .int .i64 2, .int .i64 8, .int .i64 4, .int .i64 7, .int .i64 6, .int .i64 1, .int .i64 5, .int .i64 15, .int .i64 11, .int .i64 9, .int .i64 14, .int .i64 3, .int .i64 12, .int .i64 13, .int .i64 0])] (by simp only [List.map_toArray, List.map_cons, List.map_nil]; rfl) _ (HB.out _) ?_)
    | (refine wpList_store_mid rfl 54 _ _ rfl w.heap.size 0 Lb.toArray rfl rfl HTZ.out HI.out (all_oneCell_toArray HO.out) ?_; simp only [Act.put]))
  refine bodyPost_ret (v := .agg Lb.toArray) ?_ rfl ⟨rfl, HBL.out⟩
  exact results_cell_row (fn := Tryd.f21) (p := 0) (ty := 54) rfl _ _ _ _ _ _ _ rfl HH.out Tryd.underlying54 rfl HI.out

/-- Bytes, and 0 where there are none. -/
def padB (n : Nat) (f : Nat → Nat) (i : Nat) : Nat := if i < n then f i else 0
theorem padB_lt (n : Nat) (f : Nat → Nat) (hf : ∀ i, i < n → f i < 256) (i : Nat) : padB n f i < 256 := by
  unfold padB; split
  · exact hf i (by assumption)
  · decide
theorem leN_low (f : Nat → Nat) : ∀ k, leN f (k + 1) = f 0 + 256 * leN (fun j => f (1 + j)) k
  | 0 => by simp [leN]
  | k + 1 => by
    show leN f (k + 1) + f (k + 1) * 256 ^ (k + 1) = f 0 + 256 * (leN (fun j => f (1 + j)) k + f (1 + k) * 256 ^ k)
    rw [leN_low f k, Nat.add_comm 1 k, Nat.pow_succ]
    rw [Nat.mul_add, ← Nat.add_assoc]
    congr 1
    rw [Nat.mul_comm 256, Nat.mul_assoc]
/-- Eight bytes from at on. -/
def wd (g : Nat → Nat) (at' : Nat) : Nat := leN (fun j => g (at' + j)) 8
theorem wd_step (g : Nat → Nat) (a j : Nat) (hj : j < 8) :
    leN (fun i => g (a + (j + i))) (8 - j) = leN (fun i => g (a + (j + 1 + i))) (8 - (j + 1)) * 256 + g (a + j) := by
  rw [show 8 - j = (8 - (j + 1)) + 1 from by omega, leN_low, Nat.add_comm (g _), Nat.mul_comm 256]
  simp only [Nat.add_zero, Nat.add_assoc]
theorem wd_part_lt (g : Nat → Nat) (a j : Nat) (hg : ∀ i, g i < 256) : leN (fun i => g (a + (j + 1 + i))) (8 - (j + 1)) < 72057594037927936 := by
  have h := leN_lt (fun i => g (a + (j + 1 + i))) (8 - (j + 1)) (fun i _ => hg _)
  have h2 : 256 ^ (8 - (j + 1)) ≤ 256 ^ 7 := Nat.pow_le_pow_right (by decide) (by omega)
  have h3 : (256 : Nat) ^ 7 = 72057594037927936 := by decide
  omega

set_option maxHeartbeats 2000000 in
/-- The reference's word. -/
theorem rword_any (oa : Option Addr) (n c at' : Nat) (f : Nat → Nat) (hat : at' ≤ 1000) (hf : ∀ i, i < n → f i < 256) (w : World) (hv : ∀ i, i < n → ∃ a, oa = some a ∧ w.cell? (a.add i) = some (.int .u8 ((f i : Nat) : Int))) :
    Calls Tryd.prog 16 #[.slice oa n c, .int .i64 (at' : Int)] w fun e w' => e = .returned (.int .u64 ((wd (padB n f) at' : Nat) : Int)) ∧ w' = w := by
  have HV := (show Hid _ from hv)
  have hg := padB_lt n f hf
  obtain ⟨g, eg⟩ : ∃ g, g = padB n f := ⟨_, rfl⟩
  have HE : Hid (∀ i, g i = if i < n then f i else 0) := fun i => by rw [eg]; rfl
  rw [← eg] at hg ⊢
  clear eg hv hf
  go_enter Tryd.func16, Tryd.ntmps16
  go_wp2
  go_loopw [5, 6] (fun v i wr => ∃ k : Nat, i = .int .i64 ((k : Int) - 1) ∧ k ≤ 8 ∧ v = .int .u64 ((leN (fun i => g (at' + (k + i))) (8 - k) : Nat) : Int) ∧ wr = w) (fun _ i _ => (intOf i + 1).toNat)
  case atStart => exact ⟨8, rfl, by decide, rfl, rfl⟩
  case round =>
    obtain ⟨k, rfl, hk, rfl, rfl⟩ := hrel
    by_cases hk0 : k = 0
    · subst hk0
      have hr : leN (fun i => g (at' + (0 + i))) (8 - 0) = wd g at' := by unfold wd; simp only [Nat.zero_add, Nat.sub_zero]
      rw [hr]
      obtain ⟨r, er⟩ : ∃ r, r = wd g at' := ⟨_, rfl⟩
      rw [← er]
      have ER := (show Hid _ from er)
      clear hr er
      go_wp2
      go_ret
      exact ⟨by rw [← ER.out]; rfl, rfl⟩
    · obtain ⟨j, rfl⟩ : ∃ j, k = j + 1 := ⟨k - 1, by omega⟩
      have e1 : ((j + 1 : Nat) : Int) - 1 = (j : Int) := by omega
      rw [e1]
      have hm1 : (0 : Int) ≤ (j : Int) := by omega
      have hst := wd_step g at' j (by omega)
      have hlt := wd_part_lt g at' j hg
      obtain ⟨r, er⟩ : ∃ r, r = leN (fun i => g (at' + (j + 1 + i))) (8 - (j + 1)) := ⟨_, rfl⟩
      rw [← er] at hst hlt ⊢
      have HS := (show Hid _ from hst)
      have hgj := hg (at' + j)
      have hgE := HE.out (at' + j)
      have hin : (at' : Int) + (j : Int) = ((at' + j : Nat) : Int) := by omega
      obtain ⟨p, ep⟩ : ∃ p, p = at' + j := ⟨_, rfl⟩
      rw [← ep] at hgj hgE hin HS
      have hp : p ≤ 1008 := by omega
      have hp0 : (0 : Int) ≤ (p : Int) := by omega
      clear e1 er hst ep
      by_cases hpn : p < n
      · rw [if_pos hpn] at hgE
        obtain ⟨a, rfl, hc⟩ := HV.out p hpn
        rw [← hgE] at hc
        obtain ⟨x, ex⟩ : ∃ x, x = g p := ⟨_, rfl⟩
        rw [← ex] at hc hgj HS
        have hpn' : (p : Int) < (n : Int) := by omega
        have hw1 : (r : Int) * 256 = ((r * 256 : Nat) : Int) := by omega
        obtain ⟨y, ey⟩ : ∃ y, y = r * 256 := ⟨_, rfl⟩
        rw [← ey] at hw1 HS
        have hyl : y ≤ 18446744073709551360 := by omega
        have hw2 : (y : Int) + (x : Int) = ((y + x : Nat) : Int) := by omega
        have HZ := (show Hid _ from HS.out.symm)
        obtain ⟨z, ez⟩ : ∃ z, z = y + x := ⟨_, rfl⟩
        rw [← ez] at hw2 HZ
        have hz : z < 18446744073709551616 := by omega
        have hwy : IntKind.u64.wrap (y : Int) = (y : Int) := by rw [IntKind.wrap_u64]; omega
        have hwz : IntKind.u64.wrap (z : Int) = (z : Int) := by rw [IntKind.wrap_u64]; omega
        have hwx : IntKind.u64.wrap (x : Int) = (x : Int) := by rw [IntKind.wrap_u64]; omega
        clear hgE ex ey ez hpn HS hlt hgj hg hyl hz
        go_wp2
        go_roundw
        case measure => simp [intOf]
        case rel => exact ⟨j, rfl, by omega, by rw [← HZ.out], trivial⟩
      · rw [if_neg hpn] at hgE
        rw [hgE] at HS
        have hpn' : ¬ (p : Int) < (n : Int) := by omega
        have hw1 : (r : Int) * 256 = ((r * 256 : Nat) : Int) := by omega
        obtain ⟨y, ey⟩ : ∃ y, y = r * 256 := ⟨_, rfl⟩
        rw [← ey, Nat.add_zero] at HS
        rw [← ey] at hw1
        have hwy : IntKind.u64.wrap (y : Int) = (y : Int) := by rw [IntKind.wrap_u64]; omega
        clear hgE ey hpn hlt hgj hg
        go_wp2
        go_roundw
        case measure => simp [intOf]
        case rel => exact ⟨j, rfl, by omega, by rw [HS.out], trivial⟩

end Go.Proofs.YtolaofoffakddaaDoor
