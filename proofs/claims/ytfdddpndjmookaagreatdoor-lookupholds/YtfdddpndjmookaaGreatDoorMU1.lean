/- lookup.rising. -/
import Derived.Test.YtfdddpndjmookaaGreatDoorLU3
import Derived.Test.YtfdddpndjmookaaGreatDoorLUF
import Derived.Laws.MakeOwn
import Derived.LoopN
import Derived.Deep.QuietTactic
import Derived.BigQuiet
import Derived.Deep.Draws
import Derived.Test.YtfdddpndjmookaaGreatDoorBE
import Derived.Laws.IdiomCopy
namespace Go.Proofs.YtfdddpndjmookaaGreatDoor
open Go.RowKit

/-- Where a list lies. -/
theorem Es.open {w : World} {oa : Option Addr} {n cn : Nat} {f : Nat → Nat} (h : Es w (.slice oa n cn) n f) : (oa = none ∧ n = 0 ∧ cn = 0) ∨ ∃ b o, oa = some ⟨b, o, none⟩ ∧ n ≤ cn ∧ cn ≤ maxLen ∧ b < w.heap.size ∧ ∀ i, i < n → ∀ j, j < 4 → w.cell? ⟨b, o + i * 4 + j, none⟩ = some (.int .u64 ((limb j (f i) : Nat) : Int)) := by
  rcases h with ⟨h, h0⟩ | ⟨b, o, c, h, h1, h2, h3, h4⟩
  · cases h; exact Or.inl ⟨rfl, rfl, rfl⟩
  · cases h; exact Or.inr ⟨b, o, rfl, h1, h2, h3, h4⟩
set_option maxHeartbeats 4000000 in
set_option maxRecDepth 20000 in
/-- lookup.rising: the elements that the numbers stand for, in order. -/
theorem rising_any (s n cn : Nat) (oa : Option Addr) (f : Nat → Nat) (hs : s < 4) (hn : n ≤ 1000000) (hf : ∀ i, i < n → f i < 115792089237316195423570985008687907853269984665640564039457584007913129639936) (w : World) (hg : Glob w) (hv : Es w (.slice oa n cn) n f) :
    Calls Tryz.prog 16 #[.int .i64 (s : Int), .slice oa n cn] w fun e w' => (∃ G, e = .returned (.slice (some ⟨G, 0, none⟩) n n) ∧ w.heap.size ≤ G ∧ BlkE w' G n (fun i => (rsg (fl n fun i => addP s (f i) 0)).getD i 0)) ∧ Below w.heap.size w w' := by
  obtain ⟨i0, hi, hz0, hz1, hz2⟩ := elemInfo
  have HI := (show Hid _ from hi); have HZ := (show Hid _ from And.intro hz0 (And.intro hz1 hz2)); clear hi hz0 hz1 hz2
  have HEL : Hid (∀ a, a < 115792089237316195423570985008687907853269984665640564039457584007913129639936 → ∀ w, Glob w → Calls Tryz.prog 33 #[.int .i64 (s : Int), .agg #[.int .u64 ((limb 0 (a) : Nat) : Int), .int .u64 ((limb 1 (a) : Nat) : Int), .int .u64 ((limb 2 (a) : Nat) : Int), .int .u64 ((limb 3 (a) : Nat) : Int)], .agg #[.int .u64 0, .int .u64 0, .int .u64 0, .int .u64 0]] w fun e w' => e = .returned (.agg #[.int .u64 ((limb 0 (addP s a 0) : Nat) : Int), .int .u64 ((limb 1 (addP s a 0) : Nat) : Int), .int .u64 ((limb 2 (addP s a 0) : Nat) : Int), .int .u64 ((limb 3 (addP s a 0) : Nat) : Int)]) ∧ Below w.heap.size w w') := (fld_in s hs).2.2.2.1
  have HSO : Hid (∀ G c f, (∀ i, i < n → f i < 115792089237316195423570985008687907853269984665640564039457584007913129639936) → ∀ w, BlkE w G n f → Calls Tryz.prog 36 #[.slice (some ⟨G, 0, none⟩) n c, .func (.func 37) #[] #[]] w fun e w' => e = .returned (.tuple #[]) ∧ BlkE w' G n (fun i => (rsg (fl n f)).getD i 0) ∧ Kept G w w') := fun G c f hf w hb => sort_any G n c f hn hf w hb
  have HAM : Hid (∀ a, addP s a 0 < 115792089237316195423570985008687907853269984665640564039457584007913129639936) := fun a => addP_M s a 0
  have HG : Hid (Glob w) := hg
  have HV : Hid (Es w (.slice oa n cn) n f) := hv
  have HFM : Hid (∀ i, i < n → f i < 115792089237316195423570985008687907853269984665640564039457584007913129639936) := hf
  clear hg hv hf hs
  go_enter Tryz.func16, Tryz.ntmps16
  go_wp2_with (first
    | (at_make; refine wpList_make_full _ rfl _ _ 22 rfl w.heap.size 25 i0 (.agg #[.int .u64 0, .int .u64 0, .int .u64 0, .int .u64 0]) 4 Tryz.underlying22 HI.out HZ.out.1 HZ.out.2.1 .i64 .i64 n n n rfl rfl rfl rfl ?c1 ?c2 (Nat.le_refl _) ?_)
    | go_in)
  case c1 => rw [HZ.out.2.2]; omega
  case c2 => unfold maxLen; omega
  intro w2 hown hgrow
  obtain ⟨G, eG⟩ : ∃ G, G = w.heap.size := ⟨_, rfl⟩
  rw [← eG] at hown ⊢
  have bo2 : BlkE w2 G n (fun _ => 0) := (own_blkE (f := fun _ => 0) hown (fun i hi j hj => by rw [made_zero n (i * 4 + j) (by omega), limb_zero]; rfl)).1
  have hbw2 : Below w.heap.size w w2 := (Below.refl _ w).grown hgrow (Nat.le_refl _) (fun j hj => by cases hj)
  have lG : w.heap.size ≤ G := by omega
  clear hown hgrow eG
  go_wp2
  go_loopw [13] (fun iv wr => ∃ j : Nat, iv = .int .i64 (j : Int) ∧ j ≤ n ∧ Below w.heap.size w wr ∧ BlkE wr G n (fun i => if i < j then addP s (f i) 0 else 0)) (fun iv _ => n - (intOf iv).toNat)
  case atStart => exact ⟨0, rfl, Nat.zero_le _, hbw2, bo2.congr (fun i _ => by rw [if_neg (by omega)])⟩
  case round =>
    obtain ⟨j, rfl, hj, hbr, bo⟩ := hrel
    clear bo2 hbw2
    by_cases hlt : j < n
    · have hji : (j : Int) < (n : Int) := by omega
      rcases HV.out.open with ⟨_, h0, _⟩ | ⟨ab, ao, rfl, _, _, lab, hc⟩
      · omega
      have fim := HFM.out j (by omega)
      have c0 := (hbr.cell (p := ⟨ab, ao + j * 4 + 0, none⟩) lab).trans (hc j (by omega) 0 (by decide)); have c1 := (hbr.cell (p := ⟨ab, ao + j * 4 + 1, none⟩) lab).trans (hc j (by omega) 1 (by decide)); have c2 := (hbr.cell (p := ⟨ab, ao + j * 4 + 2, none⟩) lab).trans (hc j (by omega) 2 (by decide)); have c3 := (hbr.cell (p := ⟨ab, ao + j * 4 + 3, none⟩) lab).trans (hc j (by omega) 3 (by decide))
      rw [Nat.add_zero] at c0
      clear hc
      have HX : Hid (∀ w, Glob w → _) := HEL.out (f j) fim
      obtain ⟨x, ex⟩ : ∃ x, x = f j := ⟨_, rfl⟩
      rw [← ex] at c0 c1 c2 c3 HX
      obtain ⟨y, ey⟩ : ∃ y, y = addP s x 0 := ⟨_, rfl⟩
      rw [← ey] at HX
      have HY : Hid (y = addP s (f j) 0) := by show y = addP s (f j) 0; rw [ey, ex]
      clear ex ey fim
      go_wp2_with fail
      obtain ⟨w3, hw3⟩ : ∃ z : World, z = wr.alloc (.cells #[.int .u64 ((limb 0 (x) : Nat) : Int), .int .u64 ((limb 1 (x) : Nat) : Int), .int .u64 ((limb 2 (x) : Nat) : Int), .int .u64 ((limb 3 (x) : Nat) : Int)] 25) := ⟨_, rfl⟩
      have hb3 : Below w.heap.size w w3 := by rw [hw3]; exact bAlloc hbr _
      have bo3 : BlkE w3 G n (fun i => if i < j then addP s (f i) 0 else 0) := by rw [hw3]; exact bo.alloc _
      rw [← hw3]
      clear hw3 hbr bo c0 c1 c2 c3
      refine (HX.out w3 (HG.out.below hb3)).mono ?_
      rintro e w4 ⟨rfl, hb4⟩
      have hbr4 := bStep hb3 hb4
      have bo4 := bo3.belowAll hb4
      clear bo3 hb4 hb3 HX
      have o0 := bo4.cell j hlt 0 (by decide); have o1 := bo4.cell j hlt 1 (by decide); have o2 := bo4.cell j hlt 2 (by decide); have o3 := bo4.cell j hlt 3 (by decide)
      rw [Nat.add_zero] at o0
      have fo := bo4.frozen
      obtain ⟨w5, hw5, bo5, hk5⟩ := bo4.put hlt y
      have hbr5 := bKept hbr4 lG hk5
      have bo6 : BlkE w5 G n (fun i => if i < j + 1 then addP s (f i) 0 else 0) := bo5.congr (fun i hi => by
        by_cases c : i = j
        · rw [if_pos c, if_pos (by omega), c]; exact HY.out.symm
        · rw [if_neg c]
          by_cases d : i < j
          · rw [if_pos d, if_pos (by omega)]
          · rw [if_neg d, if_neg (by omega)])
      clear bo4 bo5 hk5 hbr4
      go_wp2
      go_roundw
      case measure => simp [intOf]; omega
      case rel => exact ⟨j + 1, by go_num, by omega, hbr5, bo6⟩
    · have hji : ¬ (j : Int) < (n : Int) := by omega
      obtain rfl : j = n := by omega
      have bo1 : BlkE wr G j (fun i => addP s (f i) 0) := bo.congr (fun i hi => by rw [if_pos hi])
      clear bo
      go_wp2_with fail
      refine (HSO.out G j (fun i => addP s (f i) 0) (fun i _ => HAM.out _) wr bo1).mono ?_
      rintro e w3 ⟨rfl, bo3, hk3⟩
      have hb3 := bKept hbr lG hk3
      clear bo1 hbr hk3
      go_wp2
      go_ret
      exact ⟨⟨G, rfl, lG, bo3⟩, hb3⟩
end Go.Proofs.YtfdddpndjmookaaGreatDoor

/- lookup.isFirst, slices.Index over elements. -/
namespace Go.Proofs.YtfdddpndjmookaaGreatDoor
open Go.RowKit

theorem isF_at {n : Nat} {f : Nat → Nat} {k : Nat} (h : k + 1 < n) : isF (fl n f) (k + 1) = !decide (f (k + 1) = f k) := by
  unfold isF
  rw [fl_get h, show k + 1 - 1 = k from rfl, fl_get (by omega)]
  simp
theorem isF_zero (a : List Nat) : isF a 0 = true := rfl
set_option maxHeartbeats 4000000 in
set_option maxRecDepth 20000 in
/-- lookup.isFirst. -/
theorem isFirst_any (n cn i : Nat) (oa : Option Addr) (f : Nat → Nat) (hi : i < n) (hn : n ≤ 1000000) (hf : ∀ i, i < n → f i < 115792089237316195423570985008687907853269984665640564039457584007913129639936) (w : World) (hv : Es w (.slice oa n cn) n f) :
    Calls Tryz.prog 38 #[.slice oa n cn, .int .i64 (i : Int)] w fun e w' => e = .returned (.bool (isF (fl n f) i)) ∧ ∃ d, w' = w.drewN d := by
  rcases hv.open with ⟨_, h0, _⟩ | ⟨a, o, rfl, _, _, _, hc⟩
  · omega
  rcases Nat.eq_zero_or_pos i with rfl | hp
  · rw [isF_zero]
    clear hc hv hf
    go_enter Tryz.func38, Tryz.ntmps38
    go_wp2_with fail
    go_quiet (fail)
    go_wp2
    go_ret
    exact ⟨rfl, _, rfl⟩
  · obtain ⟨k, ek⟩ : ∃ k, k = i - 1 := ⟨_, rfl⟩
    have eF : isF (fl n f) i = !decide (f i = f k) := by
      obtain ⟨j, rfl⟩ : ∃ j, i = j + 1 := ⟨i - 1, by omega⟩
      obtain rfl : k = j := by omega
      exact isF_at hi
    rw [eF]
    have b0 := hc k (by omega) 0 (by decide); have b1 := hc k (by omega) 1 (by decide); have b2 := hc k (by omega) 2 (by decide); have b3 := hc k (by omega) 3 (by decide)
    have a0 := hc i hi 0 (by decide); have a1 := hc i hi 1 (by decide); have a2 := hc i hi 2 (by decide); have a3 := hc i hi 3 (by decide)
    rw [Nat.add_zero] at a0 b0
    have hq := fun w => neqE (f i) (f k) (hf _ hi) (hf _ (by omega)) w
    obtain ⟨x, ex⟩ : ∃ x, x = f i := ⟨_, rfl⟩
    obtain ⟨y, ey⟩ : ∃ y, y = f k := ⟨_, rfl⟩
    rw [← ex] at a0 a1 a2 a3 hq
    rw [← ey] at b0 b1 b2 b3 hq
    rw [← ex, ← ey]
    obtain ⟨b, eb⟩ : ∃ b, b = !decide (x = y) := ⟨_, rfl⟩
    rw [← eb] at hq ⊢
    have hki : (i : Int) < (n : Int) := by omega
    have hkj : (k : Int) < (n : Int) := by omega
    have hk0 : ¬ ((i : Int) = 0) := by omega
    have hk00 : ¬ (i = 0) := by omega
    have hk1 : (i : Int) - 1 = (k : Int) := by omega
    have hkw : IntKind.i64.wrap (k : Int) = (k : Int) := wrap_i64_nat k (by omega)
    have hk2 : ((i : Int) == 0) = false := by simp; omega
    clear ex ey eb hc hv hf hp eF ek
    go_enter Tryz.func38, Tryz.ntmps38
    go_wp2_with fail
    go_quiet (fail)
    go_wp2
    go_ret
    exact ⟨rfl, _, rfl⟩

/-- What Index answers: the first place of v among the first n, or -1. -/
def IdxE (f : Nat → Nat) (n v : Nat) (e : Ending) : Prop := (∃ k : Nat, k < n ∧ e = .returned (.int .i64 (k : Int)) ∧ f k = v ∧ ∀ j, j < k → f j ≠ v) ∨ (e = .returned (.int .i64 (-1)) ∧ ∀ j, j < n → f j ≠ v)
set_option maxHeartbeats 4000000 in
set_option maxRecDepth 20000 in
/-- slices.Index over elements. -/
theorem index_any (n cn v : Nat) (oa : Option Addr) (f : Nat → Nat) (hn : n ≤ 1000000) (hf : ∀ i, i < n → f i < 115792089237316195423570985008687907853269984665640564039457584007913129639936) (hv : v < 115792089237316195423570985008687907853269984665640564039457584007913129639936) (w : World) (he : Es w (.slice oa n cn) n f) :
    Calls Tryz.prog 39 #[.slice oa n cn, .agg #[.int .u64 ((limb 0 (v) : Nat) : Int), .int .u64 ((limb 1 (v) : Nat) : Int), .int .u64 ((limb 2 (v) : Nat) : Int), .int .u64 ((limb 3 (v) : Nat) : Int)]] w fun e w' => IdxE f n v e ∧ Below w.heap.size w w' := by
  have HE : Hid (Es w (.slice oa n cn) n f) := he
  have HF : Hid (∀ i, i < n → f i < 115792089237316195423570985008687907853269984665640564039457584007913129639936) := hf
  have HV : Hid (v < 115792089237316195423570985008687907853269984665640564039457584007913129639936) := hv
  have HI1 : Hid (∀ k : Nat, k < n → f k = v → (∀ j, j < k → f j ≠ v) → IdxE f n v (.returned (.int .i64 (k : Int)))) := fun k h1 h2 h3 => Or.inl ⟨k, h1, rfl, h2, h3⟩
  have HI2 : Hid ((∀ j, j < n → f j ≠ v) → IdxE f n v (.returned (.int .i64 (-1)))) := fun h => Or.inr ⟨rfl, h⟩
  clear he hf hv
  go_enter Tryz.func39, Tryz.ntmps39
  go_wp2_with fail
  obtain ⟨w0, hw0⟩ : ∃ z : World, z = w.alloc (.cells #[.int .u64 ((limb 0 (v) : Nat) : Int), .int .u64 ((limb 1 (v) : Nat) : Int), .int .u64 ((limb 2 (v) : Nat) : Int), .int .u64 ((limb 3 (v) : Nat) : Int)] 25) := ⟨_, rfl⟩
  obtain ⟨N, eN⟩ : ∃ z, z = w.heap.size := ⟨_, rfl⟩
  have bv : Blk w0 25 N (fun i => limb i v) := by rw [hw0]; exact Blk.newAt _ _ _ (fun i => limb i v) eN
  have hb0 : Below w.heap.size w w0 := by rw [hw0]; exact bAlloc (Below.refl _ _) _
  rw [← hw0]
  try rw [← eN]
  have HBD : Hid (∀ q, Below w.heap.size w (w0.drewN q)) := fun q => hb0.trans ((Below.drewN2 w0 q).mono hb0.size)
  clear hw0 eN
  go_loopw [8] (fun i wr => ∃ k d : Nat, i = .int .i64 (k : Int) ∧ k ≤ n ∧ Hid (∀ j, j < k → f j ≠ v) ∧ wr = w0.drewN d) (fun i _ => n - (intOf i).toNat)
  case atStart => exact ⟨0, 0, rfl, by omega, fun j hj => by omega, rfl⟩
  case round =>
    obtain ⟨k, d, rfl, hk, hs, rfl⟩ := hrel
    by_cases hlt : k < n
    · have hki : (k : Int) < (n : Int) := by omega
      rcases HE.out.open with ⟨_, h0, _⟩ | ⟨a, o, rfl, _, _, la, hc⟩
      · omega
      have a0 := (hb0.cell (p := ⟨a, o + k * 4 + 0, none⟩) la).trans (hc k hlt 0 (by decide)); have a1 := (hb0.cell (p := ⟨a, o + k * 4 + 1, none⟩) la).trans (hc k hlt 1 (by decide)); have a2 := (hb0.cell (p := ⟨a, o + k * 4 + 2, none⟩) la).trans (hc k hlt 2 (by decide)); have a3 := (hb0.cell (p := ⟨a, o + k * 4 + 3, none⟩) la).trans (hc k hlt 3 (by decide))
      rw [Nat.add_zero] at a0
      have v0 := bv.cell 0 (by decide); have v1 := bv.cell 1 (by decide); have v2 := bv.cell 2 (by decide); have v3 := bv.cell 3 (by decide)
      have hq := fun w => eqlE v (f k) HV.out (HF.out k hlt) w
      obtain ⟨x, ex⟩ : ∃ x, x = f k := ⟨_, rfl⟩
      rw [← ex] at a0 a1 a2 a3 hq
      clear hc
      by_cases he : v = x
      · rw [decide_eq_true he] at hq
        have HR : Hid (IdxE f n v (.returned (.int .i64 (k : Int)))) := HI1.out k hlt (by rw [← ex]; exact he.symm) hs.out
        clear he ex
        go_wp2_with fail
        go_quiet (fail)
        go_wp2
        go_ret
        exact ⟨HR.out, (HBD.out d).trans ((Below.drewN2 _ nq).mono (HBD.out d).size)⟩
      · rw [decide_eq_false he] at hq
        have HR : Hid (f k ≠ v) := fun h => he (by rw [ex]; exact h.symm)
        clear he ex
        go_wp2_with fail
        go_quiet (fail)
        go_wp2
        go_roundw
        case measure => simp [intOf]; omega
        case rel =>
          refine ⟨k + 1, d + nq, by go_num, by omega, fun j hj => ?_, rfl⟩
          rcases Nat.lt_or_ge j k with h | h
          · exact hs.out j h
          · rw [show j = k from by omega]; exact HR.out
    · have hki : ¬ (k : Int) < (n : Int) := by omega
      obtain rfl : k = n := by omega
      have HR : Hid (IdxE f k v (.returned (.int .i64 (-1)))) := HI2.out hs.out
      go_wp2
      go_ret
      exact ⟨HR.out, HBD.out d⟩
end Go.Proofs.YtfdddpndjmookaaGreatDoor

/- slices.Delete of one element. -/
namespace Go.Proofs.YtfdddpndjmookaaGreatDoor
open Go.RowKit

/-- append into the room of a block. -/
theorem wp_append_roomE {P : Program} (w : World) {o : Oper} {a : Act} {K : Act → World → Prop} {Q : Exit → Act → World → Prop} (s x : Operand) (t : TypeId)
    (ho : o.op = .call { callee := .builtin .append, args := #[s, x], argTypes := #[t, t] })
    (e : TypeId) (i : TypeInfo) (ht : P.underlying t = some (.slice e)) (hi : P.info? e = some i)
    (g sLen sCap : Nat) (cur : Array Value) (hg : w.heap[g]? = some (.cells cur e (0, 0))) (hs : a.eval s = .slice (some ⟨g, 0, none⟩) sLen sCap)
    (ad : Addr) (m c r : Nat) (news : List Value) (hx : a.eval x = .slice (some ad) m c) (hl : news.length = m * i.size) (hnews : ∀ j u, news[j]? = some u → w.cell? (ad.add j) = some u) (h1 : ∀ u ∈ news, u.oneCell' = true)
    (hroom : sLen + m ≤ sCap) (hfit : sLen * i.size + news.length ≤ cur.size) (hr : sLen + m = r)
    (h : K (a.put o.dst (.slice (some ⟨g, 0, none⟩) r sCap)) (w.setRow g (cur.toList.take (sLen * i.size) ++ news ++ cur.toList.drop (sLen * i.size + news.length)).toArray)) : o.wp P a w K Q := by
  subst hr
  have hrun := run_append_room (P := P) w t o.type e i ht hi g sLen sCap cur hg ad m c news hl hnews h1 hroom hfit
  unfold Oper.wp execOp
  simp only [ho, resolve, invoke, builtin, Sem.run_bind, Sem.run_pure, Result.andThen_ok, List.map_toArray, List.map_cons, List.map_nil, hs, hx, hrun]
  exact h
/-- clear of one element. -/
theorem run_clearE (w : World) (ty : TypeId) (b o c : Nat) (hc : ∀ j, j < 4 → (w.cell? ⟨b, o + j, none⟩).isSome = true) (hf : ∀ j, w.frozen? ⟨b, j, none⟩ = false) :
    (Builtin.clear_ #[22] ty #[.slice (some ⟨b, o, none⟩) 1 c]).run Tryz.prog w = .ok (.tuple #[]) (w.setCells b o [.int .u64 0, .int .u64 0, .int .u64 0, .int .u64 0]) := by
  have hz : (Builtin.zeroCells (Value.agg #[.int .u64 0, .int .u64 0, .int .u64 0, .int .u64 0]).cells 1).toList = [.int .u64 0, .int .u64 0, .int .u64 0, .int .u64 0] := by kernel_rfl
  have hst := run_storeCells_cells (P := Tryz.prog) b o [.int .u64 0, .int .u64 0, .int .u64 0, .int .u64 0] 0 w (by simpa using hc) (fun j _ => hf _) (by intro v hv; simp at hv; subst hv; rfl)
  simp only [Nat.add_zero] at hst
  have hv := fun w => Tryz.zeroValue25 w
  simp [Builtin.clear_, run_underlying (P := Tryz.prog) Tryz.underlying22, hv, hz, hst]
/-- A block's elements behind an append into its room. -/
theorem row_moved {w : World} {G N k m : Nat} {f : Nat → Nat} {cur : Array Value} (hg : w.heap[G]? = some (.cells cur 25)) (hs : cur.size = N * 4) (hf : ∀ i, i < N → ∀ j, j < 4 → cur[i * 4 + j]? = some (.int .u64 ((limb j (f i) : Nat) : Int)))
    (hk : k < m) (hm : m ≤ N) : BlkE (w.setRow G (cur.toList.take (k * 4) ++ els (fun i => f (k + 1 + i)) (m - (k + 1)) ++ cur.toList.drop (k * 4 + (els (fun i => f (k + 1 + i)) (m - (k + 1))).length)).toArray) G N (fun i => if i < k then f i else if i + 1 < m then f (i + 1) else f i) := by
  have hl := els_len (fun i => f (k + 1 + i)) (m - (k + 1))
  refine ⟨_, setRow_heap w G cur _ _ _ hg, ?_, fun i hi j hj => ?_⟩
  · simp only [List.size_toArray, List.length_append, List.length_take, List.length_drop, hl, Array.length_toList, hs]
    omega
  · have hcl : cur.toList.length = N * 4 := by rw [Array.length_toList, hs]
    rw [List.getElem?_toArray]
    dsimp only
    by_cases h1 : i < k
    · rw [if_pos h1, List.append_assoc, List.getElem?_append_left (by rw [List.length_take, hcl]; omega), List.getElem?_take_of_lt (by omega), Array.getElem?_toList]
      exact hf i hi j hj
    · rw [if_neg h1]
      by_cases h2 : i + 1 < m
      · rw [if_pos h2, List.append_assoc, List.getElem?_append_right (by rw [List.length_take, hcl]; omega), List.length_take, hcl, List.getElem?_append_left (by rw [hl]; omega)]
        rw [show i * 4 + j - min (k * 4) (N * 4) = (i - k) * 4 + j by omega, els_get _ _ (i - k) j (by omega) hj]
        rw [show k + 1 + (i - k) = i + 1 by omega]
      · rw [if_neg h2, List.getElem?_append_right (by rw [List.length_append, List.length_take, hcl, hl]; omega), List.length_append, List.length_take, hcl, hl, List.getElem?_drop, Array.getElem?_toList]
        rw [show k * 4 + (m - (k + 1)) * 4 + (i * 4 + j - (min (k * 4) (N * 4) + (m - (k + 1)) * 4)) = i * 4 + j by omega]
        exact hf i hi j hj
theorem setRow_kept (w : World) (G : Nat) (cs : Array Value) : Kept G w (w.setRow G cs) := by
  refine ⟨rfl, rfl, rfl, by simp [World.setRow], fun k hk hne => ?_⟩
  show (w.heap.modify G _)[k]? = _
  rw [Array.getElem?_modify, if_neg (fun e => hne e.symm)]
set_option maxHeartbeats 4000000 in
set_option maxRecDepth 20000 in
/-- slices.Delete of the element at k. -/
theorem delete_any (G N m k k1 : Nat) (f : Nat → Nat) (hk : k < m) (ek : k1 = k + 1) (hm : m ≤ N) (w : World) (hb : BlkE w G N f) :
    Calls Tryz.prog 40 #[.slice (some ⟨G, 0, none⟩) m N, .int .i64 (k : Int), .int .i64 (k1 : Int)] w fun e w' => e = .returned (.slice (some ⟨G, 0, none⟩) (m - 1) N) ∧ BlkE w' G N (fun i => if i = m - 1 then 0 else if i < k then f i else if i + 1 < m then f (i + 1) else f i) ∧ Kept G w w' := by
  obtain ⟨i0, hi, hz0, hz1, hz2⟩ := elemInfo
  have hb' := hb
  obtain ⟨cur, hg, hs, hf⟩ := hb'
  obtain ⟨news, en⟩ : ∃ l, l = els (fun i => f (k + 1 + i)) (m - (k + 1)) := ⟨_, rfl⟩
  have hl : news.length = (m - k1) * 4 := by rw [en, els_len, ek]
  have hk1 : ¬ ((k : Int) = (k1 : Int)) := by omega
  have hk2 : (k : Int) ≤ (k1 : Int) := by omega
  have hk3 : (k1 : Int) ≤ (m : Int) := by omega
  have hk4 : (m : Int) ≤ (N : Int) := by omega
  have hk5 : (k : Int) ≤ (N : Int) := by omega
  have hk6 : ¬ (k = k1) := by omega
  obtain ⟨A, oA, hoA, hAe, hcells⟩ : ∃ (A : Addr) (oA : Option Addr), oA = some A ∧ (if N = k1 then some (⟨G, 0, none⟩ : Addr) else some ⟨G, k1 * 4, none⟩) = oA ∧ ∀ t u, news[t]? = some u → w.drew.cell? (A.add t) = some u := by
    by_cases h : N = k1
    · refine ⟨⟨G, 0, none⟩, _, rfl, by rw [if_pos h], fun t u hu => ?_⟩
      have h0 : news.length = 0 := by rw [hl]; omega
      rw [List.length_eq_zero_iff.1 h0] at hu
      simp at hu
    · refine ⟨⟨G, k1 * 4, none⟩, _, rfl, by rw [if_neg h], fun t u hu => ?_⟩
      have ht : t < (m - k1) * 4 := by
        have := (List.getElem?_eq_some_iff.1 hu).1
        rwa [hl] at this
      rw [en] at hu
      have e := els_get (fun i => f (k + 1 + i)) (m - (k + 1)) (t / 4) (t % 4) (by omega) (by omega)
      rw [show t / 4 * 4 + t % 4 = t by omega, hu] at e
      cases e
      rw [Addr.add_lit, show k1 * 4 + t = (k + 1 + t / 4) * 4 + t % 4 by omega]
      exact hb.drew.cell _ (by omega) _ (by omega)
  have hd : BlkE w.drew G N f := hb.drew
  obtain ⟨cur', hg', hs', hf'⟩ := hd
  have hgc : cur' = cur := by
    have e : w.heap[G]? = some (.cells cur' 25) := hg'
    rw [hg] at e
    injection e with e
    injection e with e1
    exact e1.symm
  subst hgc
  obtain ⟨W1, hW1⟩ : ∃ z, z = w.drew.setRow G (cur'.toList.take (k * i0.size) ++ news ++ cur'.toList.drop (k * i0.size + news.length)).toArray := ⟨_, rfl⟩
  have b1 : BlkE W1 G N (fun i => if i < k then f i else if i + 1 < m then f (i + 1) else f i) := by rw [hW1, en, hz1]; exact row_moved hg' hs' hf' hk hm
  have k1' : Kept G w W1 := by rw [hW1]; exact (Kept.refl G w).trans (Kept.trans (Kept.ofBelow G (Below.refl _ _).drew) (setRow_kept _ _ _))
  obtain ⟨m1, em⟩ : ∃ z, z = m - 1 := ⟨_, rfl⟩
  have hlm : m1 < N := by omega
  have fz := b1.frozen
  have cz : ∀ j, j < 4 → (W1.cell? ⟨G, m1 * 4 + j, none⟩).isSome = true := fun j hj => by rw [b1.cell m1 hlm j hj]; rfl
  obtain ⟨W2, hW2, b2, k2⟩ := b1.put hlm 0
  have hcl : ∀ ty, (Builtin.clear_ #[22] ty #[.slice (some ⟨G, m1 * 4, none⟩) (m - m1) (N - m1)]).run Tryz.prog W1 = .ok (.tuple #[]) W2 := by
    intro ty
    rw [show m - m1 = 1 by omega, run_clearE W1 ty G (m1 * 4) _ cz fz, ← hW2]
    simp only [limb_zero]
    rfl
  have hK : Hid (Kept G w W2) := k1'.trans k2
  have hB : Hid (BlkE W2 G N (fun i => if i = m - 1 then 0 else if i < k then f i else if i + 1 < m then f (i + 1) else f i)) := b2.congr (fun i hi => by rw [em])
  have HOA : Hid (oA = some A) := hoA
  have HC : Hid (∀ t u, news[t]? = some u → w.drew.cell? (A.add t) = some u) := hcells
  have HG : Hid (w.drew.heap[G]? = some (.cells cur' 25)) := hg'
  have HL : Hid (news.length = (m - k1) * 4) := hl
  have HE : Hid (news = els (fun i => f (k + 1 + i)) (m - (k + 1))) := en
  have HI := (show Hid _ from hi); have HZ : Hid (i0.size = 4) := hz1
  have HW1 : Hid (W1 = w.drew.setRow G (cur'.toList.take (k * i0.size) ++ news ++ cur'.toList.drop (k * i0.size + news.length)).toArray) := hW1
  have HS : Hid (cur'.size = N * 4) := hs'
  have HM : Hid (m1 = m - 1) := em
  have HKM : Hid (k1 = k + 1 ∧ k < m ∧ m ≤ N) := ⟨ek, hk, hm⟩
  have hm1 : (m1 : Int) ≤ (m : Int) := by omega
  have hm2 : ¬ N = m1 := by omega
  rw [← em]
  clear hb hg hs hf en hl hoA hcells hg' hs' hf' hW1 b1 k1' fz cz hW2 b2 k2 hi hz0 hz1 hz2 em ek hk hm
  rw [show m - 1 = m1 from HM.out.symm] at hB
  go_enter Tryz.func40, Tryz.ntmps40
  go_upto_region 5 with fail
  refine wp_region_Z (fun _ => True) 99 (by kernel_rfl) ?_
  refine zt 0 20 (.slice (some ⟨G, 0, none⟩) m N) rfl rfl (fun w hSw => by clear hSw; go_simp) trivial ?_
  simp only [Act.put, List.setIfInBounds_toArray]
  (try dsimp only [List.set_cons_zero, List.set_cons_succ])
  refine zt 1 21 (.int .i64 (k : Int)) rfl rfl (fun w hSw => by clear hSw; go_simp) trivial ?_
  simp only [Act.put, List.setIfInBounds_toArray]
  (try dsimp only [List.set_cons_zero, List.set_cons_succ])
  refine zt 2 22 (.slice (some ⟨G, 0, none⟩) k N) rfl rfl (fun w hSw => by clear hSw; go_simp) trivial ?_
  simp only [Act.put, List.setIfInBounds_toArray]
  (try dsimp only [List.set_cons_zero, List.set_cons_succ])
  refine zt 3 23 (.slice (some ⟨G, 0, none⟩) m N) rfl rfl (fun w hSw => by clear hSw; go_simp) trivial ?_
  simp only [Act.put, List.setIfInBounds_toArray]
  (try dsimp only [List.set_cons_zero, List.set_cons_succ])
  refine zt 4 24 (.int .i64 (k1 : Int)) rfl rfl (fun w hSw => by clear hSw; go_simp) trivial ?_
  simp only [Act.put, List.setIfInBounds_toArray]
  (try dsimp only [List.set_cons_zero, List.set_cons_succ])
  refine zt 5 25 (.slice oA (m - k1) (N - k1)) rfl rfl (fun w hSw => by (have qA := HOA.out); clear hSw; go_simp) trivial ?_
  simp only [Act.put, List.setIfInBounds_toArray]
  (try dsimp only [List.set_cons_zero, List.set_cons_succ])
  refine wpZ_one (i := 6) (by kernel_rfl) rfl (fun K hK2 => ?_)
  refine wp_append_roomE w.drew (.tmp 22) (.tmp 25) 22 rfl 25 i0 Tryz.underlying22 HI.out G k N cur' HG.out (by simp [Act.eval]) A (m - k1) (N - k1) m1 news (by simp [Act.eval, HOA.out]) (by rw [HL.out, HZ.out]) HC.out (by rw [HE.out]; intro u hu; unfold els at hu; obtain ⟨i, _, rfl⟩ := List.mem_map.mp hu; rfl) (by have := HKM.out; omega) (by rw [HL.out, HZ.out, HS.out]; have := HKM.out; omega) (by have := HKM.out; have := HM.out; omega) ?_
  rw [← HW1.out]
  refine hK2.out _ _ (fun _ => trivial) ?_
  clear hK2 K
  simp only [Act.put]
  refine zt 7 0 (.slice (some ⟨G, 0, none⟩) m1 N) rfl rfl (fun w hSw => by clear hSw; go_simp) trivial ?_
  simp only [Act.put, List.setIfInBounds_toArray]
  (try dsimp only [List.set_cons_zero, List.set_cons_succ])
  refine wpZ_done (by kernel_rfl) ?_ _
  go_wp2
  go_ret
  exact ⟨rfl, hB.out, hK.out⟩
end Go.Proofs.YtfdddpndjmookaaGreatDoor

/- lookup.without. -/
namespace Go.Proofs.YtfdddpndjmookaaGreatDoor
open Go.RowKit

theorem wo_mem {a t : List Nat} : ∀ (i : Nat) {l : List Nat}, wo a t i = some l → ∀ v, v ∈ l → v ∈ t
  | 0, l, h, v, hv => by cases h; exact hv
  | i + 1, l, h, v, hv => by
    obtain ⟨m, hm, h1⟩ := Option.bind_eq_some_iff.1 h
    by_cases hf : isF a i = true
    · rw [if_pos hf] at h1
      by_cases hi : a.getD i 0 ∈ m
      · rw [if_pos hi] at h1
        cases h1
        exact wo_mem i hm v (List.mem_of_mem_erase hv)
      · rw [if_neg hi] at h1; cases h1
    · rw [if_neg hf] at h1
      cases h1
      exact wo_mem i hm v hv
/-- Block b has room for N elements; its first ones are the list's. -/
def RowL (w : World) (b N : Nat) (l : List Nat) : Prop := l.length ≤ N ∧ ∃ f, BlkE w b N f ∧ ∀ i, i < l.length → f i = l.getD i 0
theorem RowL.kept {w w' : World} {b N g : Nat} {l : List Nat} (h : RowL w b N l) (hne : b ≠ g) (hk : Kept g w w') : RowL w' b N l := by
  obtain ⟨h1, f, h2, h3⟩ := h
  exact ⟨h1, f, h2.kept hne hk, h3⟩
theorem RowL.below {w w' : World} {b N : Nat} {l : List Nat} (h : RowL w b N l) (hb : Below w.heap.size w w') : RowL w' b N l := by
  obtain ⟨h1, f, h2, h3⟩ := h
  exact ⟨h1, f, h2.belowAll hb, h3⟩
theorem RowL.es {w : World} {b N : Nat} {l : List Nat} (h : RowL w b N l) (hN : N ≤ maxLen) : Es w (.slice (some ⟨b, 0, none⟩) l.length N) l.length (fun i => l.getD i 0) := by
  obtain ⟨h1, f, h2, h3⟩ := h
  exact Or.inr ⟨b, 0, N, rfl, h1, hN, h2.lt, fun i hi j hj => by show _ = some (Value.int .u64 ((limb j (l.getD i 0) : Nat) : Int)); rw [← h3 i hi, Nat.zero_add]; exact h2.cell i (by omega) j hj⟩
theorem RowL.lt {w : World} {b N : Nat} {l : List Nat} (h : RowL w b N l) : b < w.heap.size := by
  obtain ⟨_, f, h2, _⟩ := h
  exact h2.lt
theorem BlkE.es {w : World} {b n : Nat} {f : Nat → Nat} (h : BlkE w b n f) (hn : n ≤ maxLen) : Go.Proofs.YtfdddpndjmookaaGreatDoor.Es w (.slice (some ⟨b, 0, none⟩) n n) n f := h.Es hn
/-- One value is taken out of a row. -/
theorem rowDel {w' : World} {b N k : Nat} {l : List Nat} {f : Nat → Nat} (hk : k < l.length) (hv : ∀ j, j < k → l.getD j 0 ≠ l.getD k 0) (hf : ∀ i, i < l.length → f i = l.getD i 0) (hl : l.length ≤ N)
    (h : BlkE w' b N (fun i => if i = l.length - 1 then 0 else if i < k then f i else if i + 1 < l.length then f (i + 1) else f i)) : RowL w' b N (l.erase (l.getD k 0)) ∧ (l.erase (l.getD k 0)).length = l.length - 1 := by
  have he := erase_at (l.getD k 0) l k hk rfl hv
  have hlen : (l.erase (l.getD k 0)).length = l.length - 1 := List.length_erase_of_mem (getD_mem hk)
  refine ⟨⟨by omega, _, h, fun i hi => ?_⟩, hlen⟩
  rw [hlen] at hi
  rw [if_neg (by omega), he, List.getD_eq_getElem?_getD]
  by_cases h1 : i < k
  · rw [if_pos h1, hf i (by omega), List.getElem?_append_left (by rw [List.length_take]; omega), List.getElem?_take_of_lt h1, List.getD_eq_getElem?_getD]
  · rw [if_neg h1, if_pos (by omega), hf _ (by omega), List.getElem?_append_right (by rw [List.length_take]; omega), List.length_take, List.getElem?_drop, List.getD_eq_getElem?_getD, show k + 1 + (i - min k l.length) = i + 1 by omega]
/-- What without answers. -/
def WoE (r : Option (List Nat)) (G N : Nat) (e : Ending) (w' : World) : Prop :=
  (r = none ∧ e = .returned (.tuple #[.slice none 0 0, .bool false])) ∨ ∃ (t : List Nat), r = some t ∧ e = .returned (.tuple #[.slice (some ⟨G, 0, none⟩) t.length N, .bool true]) ∧ RowL w' G N t
set_option maxHeartbeats 400000 in
set_option maxRecDepth 20000 in
/-- lookup.without. -/
theorem without_any (A G n N : Nat) (f : Nat → Nat) (l : List Nat) (hn : n ≤ 1000000) (hN : N ≤ 1000000) (hne : A ≠ G) (hf : ∀ i, i < n → f i < 115792089237316195423570985008687907853269984665640564039457584007913129639936) (hlM : ∀ v, v ∈ l → v < 115792089237316195423570985008687907853269984665640564039457584007913129639936) (w : World) (ha : BlkE w A n f) (hg : RowL w G N l) :
    Calls Tryz.prog 17 #[.slice (some ⟨G, 0, none⟩) l.length N, .slice (some ⟨A, 0, none⟩) n n] w fun e w' => WoE (wo (fl n f) l n) G N e w' ∧ Kept G w w' := by
  have HN : Hid (n ≤ maxLen ∧ N ≤ maxLen) := ⟨by unfold maxLen; omega, by unfold maxLen; omega⟩
  have HF : Hid (∀ i, i < n → f i < 115792089237316195423570985008687907853269984665640564039457584007913129639936) := hf
  have HLM : Hid (∀ v, v ∈ l → v < 115792089237316195423570985008687907853269984665640564039457584007913129639936) := hlM
  have HA : Hid (BlkE w A n f) := ha
  have hAl := ha.lt
  have hGl := hg.lt
  have HIF : Hid (∀ i, i < n → ∀ w, BlkE w A n f → Calls Tryz.prog 38 #[.slice (some ⟨A, 0, none⟩) n n, .int .i64 (i : Int)] w fun e w' => e = .returned (.bool (isF (fl n f) i)) ∧ Below w.heap.size w w') := fun i hi w hb => (isFirst_any n n i _ f hi hn hf w (hb.es (by unfold maxLen; omega))).mono (by
    rintro e w' ⟨rfl, d, rfl⟩
    exact ⟨rfl, Below.drewN2 _ _⟩)
  have HIX : Hid (∀ (t : List Nat) (m v : Nat), t.length = m → (∀ v, v ∈ t → v ∈ l) → v < 115792089237316195423570985008687907853269984665640564039457584007913129639936 → ∀ w, RowL w G N t → Calls Tryz.prog 39 #[.slice (some ⟨G, 0, none⟩) m N, .agg #[.int .u64 ((limb 0 (v) : Nat) : Int), .int .u64 ((limb 1 (v) : Nat) : Int), .int .u64 ((limb 2 (v) : Nat) : Int), .int .u64 ((limb 3 (v) : Nat) : Int)]] w fun e w' => IdxE (fun i => t.getD i 0) m v e ∧ Below w.heap.size w w') := by
    intro t m v hm ht hv w hb
    subst hm
    exact index_any t.length N v _ _ (by have := hb.1; omega) (fun i hi => hlM _ (ht _ (getD_mem hi))) hv w (hb.es (by unfold maxLen; omega))
  have HDL : Hid (∀ (t : List Nat) (m k : Nat), t.length = m → k < m → (∀ j, j < k → t.getD j 0 ≠ t.getD k 0) → ∀ w, RowL w G N t → Calls Tryz.prog 40 #[.slice (some ⟨G, 0, none⟩) m N, .int .i64 (k : Int), .int .i64 ((k : Int) + 1)] w fun e w' => e = .returned (.slice (some ⟨G, 0, none⟩) (m - 1) N) ∧ RowL w' G N (t.erase (t.getD k 0)) ∧ Kept G w w') := by
    intro t m k hm hk hj w hb
    subst hm
    obtain ⟨h1, g, h2, h3⟩ := hb
    refine (delete_any G N t.length k (k + 1) g hk rfl h1 w h2).mono ?_
    rintro e w' ⟨rfl, b, hkp⟩
    exact ⟨rfl, (rowDel hk hj h3 h1 b).1, hkp⟩
  have HE1 : Hid (∀ w', wo (fl n f) l n = none → WoE (wo (fl n f) l n) G N (.returned (.tuple #[.slice none 0 0, .bool false])) w') := fun w' h => Or.inl ⟨h, rfl⟩
  have HE2 : Hid (∀ w' (t : List Nat) (m : Nat), wo (fl n f) l n = some t → t.length = m → RowL w' G N t → WoE (wo (fl n f) l n) G N (.returned (.tuple #[.slice (some ⟨G, 0, none⟩) m N, .bool true])) w') := fun w' t m h hm hr => by
    subst hm
    exact Or.inr ⟨t, h, rfl, hr⟩
  have HR : Hid (RowL w G N l) := hg
  obtain ⟨m0, em0⟩ : ∃ z, z = l.length := ⟨_, rfl⟩
  have HM0 : Hid (l.length = m0) := em0.symm
  rw [← em0]
  clear hf hlM ha hg em0
  go_enter Tryz.func17, Tryz.ntmps17
  go_wp2
  go_loopw [0, 11] (fun tv iv wr => ∃ (j m : Nat) (t : List Nat), iv = .int .i64 (j : Int) ∧ tv = .slice (some ⟨G, 0, none⟩) m N ∧ j ≤ n ∧ Hid (t.length = m ∧ wo (fl n f) l j = some t) ∧ RowL wr G N t ∧ Kept G w wr) (fun _ iv _ => n - (intOf iv).toNat)
  case atStart => exact ⟨0, m0, l, rfl, rfl, Nat.zero_le _, ⟨HM0.out, rfl⟩, HR.out, Kept.refl _ _⟩
  case round =>
    obtain ⟨j, m, t, rfl, rfl, hj, ht, hr, hkp⟩ := hrel
    clear HR HM0
    by_cases hlt : j < n
    · have hji : (j : Int) < (n : Int) := by omega
      have bA := HA.out.kept hne hkp
      have c0 := bA.cell j hlt 0 (by decide); have c1 := bA.cell j hlt 1 (by decide); have c2 := bA.cell j hlt 2 (by decide); have c3 := bA.cell j hlt 3 (by decide)
      rw [Nat.add_zero] at c0
      have hx : Hid (f j < 115792089237316195423570985008687907853269984665640564039457584007913129639936) := HF.out j hlt
      have HAT : Hid ((fl n f).getD j 0 = f j) := fl_get hlt
      obtain ⟨x, ex⟩ : ∃ x, x = f j := ⟨_, rfl⟩
      rw [← ex] at c0 c1 c2 c3 hx HAT
      have HI := HIF.out j hlt
      obtain ⟨b, eb⟩ : ∃ b, b = isF (fl n f) j := ⟨_, rfl⟩
      rw [← eb] at HI
      have HIJ : Hid (∀ w, BlkE w A n f → _) := HI
      have HB : Hid (isF (fl n f) j = b) := eb.symm
      clear ex eb HI
      go_wp2_with fail
      obtain ⟨w3, hw3⟩ : ∃ z : World, z = wr.alloc (.cells #[.int .u64 ((limb 0 (x) : Nat) : Int), .int .u64 ((limb 1 (x) : Nat) : Int), .int .u64 ((limb 2 (x) : Nat) : Int), .int .u64 ((limb 3 (x) : Nat) : Int)] 25) := ⟨_, rfl⟩
      obtain ⟨N7, e7⟩ : ∃ z, z = wr.heap.size := ⟨_, rfl⟩
      have l7 : w.heap.size ≤ N7 := by rw [e7]; exact hkp.size
      have b7 : Blk w3 25 N7 (fun i => limb i x) := by rw [hw3]; exact Blk.newAt _ _ _ (fun i => limb i x) e7
      have hb3 : Below wr.heap.size wr w3 := by rw [hw3]; exact bAlloc (Below.refl _ _) _
      have bA3 := bA.belowAll hb3
      have hr3 := hr.below hb3
      have hk3 := hkp.step hb3
      rw [← hw3]
      try rw [← e7]
      clear hw3 e7 bA hr hkp hb3 c0 c1 c2 c3
      refine (HIJ.out w3 bA3).mono ?_
      rintro e w4 ⟨rfl, hb4⟩
      have b74 := b7.belowAll hb4
      have hr4 := hr3.below hb4
      have hk4 := hk3.step hb4
      clear bA3 hr3 hk3 b7 hb4 HIJ
      cases b
      · have HN1 : Hid (wo (fl n f) l (j + 1) = some t) := wo_next_skip ht.out.2 HB.out
        clear b74
        go_wp2
        go_roundw
        case measure => simp [intOf]; omega
        case rel => exact ⟨j + 1, m, t, by go_num, rfl, by omega, ⟨ht.out.1, HN1.out⟩, hr4, hk4⟩
      · have c0 := b74.cell 0 (by decide); have c1 := b74.cell 1 (by decide); have c2 := b74.cell 2 (by decide); have c3 := b74.cell 3 (by decide)
        have HXX : Hid (∀ w, RowL w G N t → _) := HIX.out t m x ht.out.1 (wo_mem j ht.out.2) hx.out
        go_wp2_with fail
        refine (HXX.out w4 hr4).mono ?_
        rintro e w5 ⟨hix, hb5⟩
        have hr5 := hr4.below hb5
        have hk5 := hk4.step hb5
        clear hr4 hk4 hb5 HXX c0 c1 c2 c3 b74
        rcases hix with ⟨k, hk, rfl, hkv, hkn⟩ | ⟨rfl, hno⟩
        · dsimp only at hkv hkn
          have hk0 : ¬ (k : Int) < 0 := by omega
          have hkN : k < 1000000 := by have h1 := hr5.1; have h2 := ht.out.1; omega
          have HDD : Hid (∀ w, RowL w G N t → _) := HDL.out t m k ht.out.1 hk (fun j hj => by rw [hkv]; exact hkn j hj)
          have HN1 : Hid (wo (fl n f) l (j + 1) = some (t.erase (t.getD k 0)) ∧ (t.erase (t.getD k 0)).length = m - 1) := by
            have hm : t.getD k 0 ∈ t := getD_mem (by rw [ht.out.1]; exact hk)
            have e1 : t.getD k 0 = (fl n f).getD j 0 := by rw [hkv, HAT.out]
            refine ⟨?_, by rw [List.length_erase_of_mem hm, ht.out.1]⟩
            rw [e1] at hm ⊢
            exact wo_next_in ht.out.2 HB.out hm
          clear hkv hkn
          go_wp2_with fail
          refine (HDD.out w5 hr5).mono ?_
          rintro e w6 ⟨rfl, hr6, hk6⟩
          have hk7 := hk5.trans hk6
          clear HDD hr5 hk5 hk6
          go_wp2
          go_roundw
          case measure => simp [intOf]; omega
          case rel => exact ⟨j + 1, m - 1, _, by go_num, rfl, by omega, ⟨HN1.out.2, HN1.out.1⟩, hr6, hk7⟩
        · have HN1 : Hid (wo (fl n f) l n = none) := by
            refine wo_none n (i := j + 1) ?_ (by omega)
            refine wo_next_out ht.out.2 HB.out (fun hm => ?_)
            rw [HAT.out] at hm
            obtain ⟨q, hq, e⟩ := mem_getD hm
            rw [ht.out.1] at hq
            exact hno q hq e
          clear hno
          go_wp2
          go_ret2
          exact ⟨HE1.out _ HN1.out, hk5⟩
    · have hji : ¬ (j : Int) < (n : Int) := by omega
      obtain rfl : j = n := by omega
      have HN1 := HE2.out wr t m ht.out.2 ht.out.1 hr
      go_wp2
      go_ret2
      exact ⟨HN1, hkp⟩
end Go.Proofs.YtfdddpndjmookaaGreatDoor

