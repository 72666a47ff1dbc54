/- A range over slices.Backward of elements: a law of its own; a drawn region inside a round. -/
import Derived.Test.YtfahhohhpjlhnaaDoorL5
import Derived.Test.YtfahhohhpjlhnaaDoorBE
import Derived.RangeFuncNested
import Derived.RangeFuncBound
import Derived.RangeFuncCalls
import Derived.RangeFuncLeaves
import Derived.Shelf.Abstract
import Derived.OwnWalkIn
import Derived.TacticsInMore
import Derived.LoopNIn
import Derived.LoopIn
namespace Go.Proofs.YtfahhohhpjlhnaaDoor
open Go.RowKit

theorem semAt_rd (l : Nat) (ρ : Operand → Value) (o : Oper) (h : ∀ c, o.op ≠ .defer c) : Oper.semAt (some l) ρ o = execOp ρ o := Oper.semAt_some l ρ o h
attribute [local go_sem] semAt_rd

/-- In a round an operation that is no defer does as everywhere. -/
theorem Oper.wpIn_of_wp {l n : Nat} {P : Program} {o : Oper} {a : Act} {w : World} {K : Act → World → Prop} {Q : Exit → Act → World → Prop} (hd : ∀ c, o.op ≠ .defer c) (h : Oper.wp P o a w K Q) : Oper.wpIn (Fence.wide.inRound l) n P o a w K Q := by
  unfold Oper.wpIn
  refine ⟨fun _ _ => trivial, ?_⟩
  rw [Oper.semAt_eq _ _ _ hd]
  unfold Oper.wp at h
  generalize (execOp a.eval o).run P w = r at h ⊢
  cases r with
  | ok x w' =>
    cases x <;> first
      | exact h
      | exact ⟨fun hh => by simp [Fence.inRound, Fence.wide] at hh, CallsIn.inRound l (callsIn_wide.2 h)⟩
      | exact ⟨fun hh => by simp [Fence.inRound, Fence.wide] at hh, fun c cs _ => let ⟨v, w', q, s⟩ := h c cs; ⟨v, w', q, stepsIn_wide.2 s⟩⟩
      | exact h.elim
  | halt x w' => cases x <;> first | exact h | exact h.elim
/-- No operation of the region is a defer. -/
def noDefer (ops : Array Oper) : Bool := ops.all fun o => match o.op with | .defer _ => false | _ => true
theorem noDefer_at {ops : Array Oper} (h : noDefer ops = true) {i : Nat} {o : Oper} (hi : ops[i]? = some o) : ∀ c, o.op ≠ .defer c := by
  intro c hc
  unfold noDefer at h
  rw [Array.all_eq_true] at h
  obtain ⟨hl, rfl⟩ := Array.getElem?_eq_some_iff.1 hi
  have h2 := h i hl
  rw [hc] at h2
  cases h2
theorem wpOpIn_of_wpOp {l n : Nat} {P : Program} {ops : Array Oper} {Q : Exit → Act → World → Prop} (hd : noDefer ops = true) (hl : ¬ LetsOut Q) {i : Nat} {K : Act → World → Prop} {a : Act} {w : World} (h : wpOp P ops Q i K a w) : wpOpIn (Fence.wide.inRound l) n P ops Q i K a w := by
  unfold wpOp at h
  unfold wpOpIn
  cases ho : ops[i]? with
  | none => simpa [ho] using h
  | some o =>
    simp only [ho] at h ⊢
    split
    · rename_i hw
      rw [if_pos hw] at h
      rcases h with h | ⟨_, h⟩
      · exact Oper.wpIn_of_wp (noDefer_at hd ho) h
      · exact absurd h hl
    · rename_i hw
      rw [if_neg hw] at h
      exact ⟨fun _ _ => trivial, h⟩
theorem wpAnyIn_of_wpAny {l n : Nat} {P : Program} {md : Region.Mode} {ops : Array Oper} {Q : Exit → Act → World → Prop} (hd : noDefer ops = true) (hl : ¬ LetsOut Q) : ∀ (fuel : Nat) (listed : Array Bool) (a : Act) (w : World), wpAny P md ops Q fuel listed a w → wpAnyIn (Fence.wide.inRound l) n P md ops Q fuel listed a w
  | 0, _, _, _, h => h
  | fuel + 1, _, _, _, h => ⟨h.1, fun i hi => wpOpIn_mono (fun a' w' k => wpAnyIn_of_wpAny hd hl fuel _ a' w' k) (wpOpIn_of_wpOp hd hl (h.2 i hi))⟩
/-- A drawn region inside a round. -/
theorem wpIn_region_Z {P : Program} {ops : Array Oper} {Q : Exit → Act → World → Prop} {id l n : Nat} {a : Act} {w : World} (S : World → Prop) (z : Nat) (hm : P.follows .mixedOrders = true) (hd : noDefer ops = true) (hl : ¬ LetsOut Q)
    (h : wpZ P .any ops Q S z ops.size (Array.replicate ops.size false) a w.drew) : (Code.region id ops true).wpIn (Fence.wide.inRound l) n P Q a w :=
  wpIn_region_any hm (wpAnyIn_of_wpAny hd hl _ _ _ _ (wpAny_of_Z _ _ _ _ h))

/-- What lies at or beyond H lies as it lay. -/
def Kr (H : Nat) (w w' : World) : Prop := w.heap.size ≤ w'.heap.size ∧ ∀ k, H ≤ k → k < w.heap.size → w'.heap[k]? = w.heap[k]?
theorem Kr.refl (H : Nat) (w : World) : Kr H w w := ⟨Nat.le_refl _, fun _ _ _ => rfl⟩
theorem Kr.trans {H : Nat} {a b c : World} (h : Kr H a b) (k : Kr H b c) : Kr H a c := ⟨Nat.le_trans h.1 k.1, fun i hi hl => (k.2 i hi (Nat.lt_of_lt_of_le hl h.1)).trans (h.2 i hi hl)⟩
theorem Kr.of_below {H : Nat} {w w' : World} (h : Below w.heap.size w w') : Kr H w w' := ⟨h.size, fun k _ hl => h.block k hl⟩
theorem Kr.of_kept {H g : Nat} {w w' : World} (h : Kept g w w') (hg : g < H) : Kr H w w' := ⟨h.size, fun k hk hl => h.block k hl (by omega)⟩
/-- One block that is no cells, laid at or beyond H, is another. -/
theorem put_below {H l : Nat} {w : World} (hl : H ≤ l) (o : Obj) : Below H w (w.putObj l o) :=
  ⟨rfl, rfl, rfl, by simp, fun k hk => World.putObj_heap_other (by omega)⟩

set_option maxRecDepth 100000 in
set_option maxHeartbeats 4000000 in
/-- slices.Backward's closure: J i: i elements are left. -/
theorem bw_in (l Bs n cn : Nat) (oa : Option Addr) (f : Nat → Nat) (hn : n ≤ 1000000) (J Jx : Nat → World → Prop)
    (hJs : ∀ i W, J i W → W.cell? ⟨Bs, 0, none⟩ = some (.slice oa n cn))
    (hJc : ∀ i W, i < n → J (i + 1) W → ∃ ab ao, oa = some ⟨ab, ao, none⟩ ∧ ∀ j, j < 4 → W.cell? ⟨ab, ao + i * 4 + j, none⟩ = some (.int .u64 ((limb j (f i) : Nat) : Int)))
    (hY : ∀ i W, i < n → J (i + 1) W → YieldAt Fence.wide 2 Tryd.prog l #[.int .i64 (i : Int), .agg #[.int .u64 ((limb 0 (f i) : Nat) : Int), .int .u64 ((limb 1 (f i) : Nat) : Int), .int .u64 ((limb 2 (f i) : Nat) : Int), .int .u64 ((limb 3 (f i) : Nat) : Int)]] W fun e W' => (e = .returned (.bool true) ∧ J i W') ∨ (e = .returned (.bool false) ∧ Jx i W'))
    (W : World) (h0 : J n W) : CallsIn Fence.wide 3 Tryd.prog 50 #[.func (.yield l) #[] #[], .pointer (some ⟨Bs, 0, none⟩)] W fun e W' => (∃ v, e = .returned v) ∧ (J 0 W' ∨ ∃ i, i < n ∧ Jx i W') := by
  refine callsIn_of_wp Tryd.func50 rfl trivial ?_ rfl
  simp only [Tryd.ntmps50, List.size_toArray, List.length_cons, List.length_nil, Nat.reduceAdd, Nat.reduceSub, Array.replicate_succ, Array.replicate_zero, List.push_toArray, List.append_toArray, List.nil_append, List.cons_append]
  have hs0 := hJs n W h0
  have HJS : Hid (∀ i W, J i W → W.cell? ⟨Bs, 0, none⟩ = some (.slice oa n cn)) := hJs
  have HJC : Hid (∀ i W, i < n → J (i + 1) W → ∃ ab ao, oa = some ⟨ab, ao, none⟩ ∧ ∀ j, j < 4 → W.cell? ⟨ab, ao + i * 4 + j, none⟩ = some (.int .u64 ((limb j (f i) : Nat) : Int))) := hJc
  have HY : Hid (∀ i W, i < n → J (i + 1) W → YieldAt Fence.wide 2 Tryd.prog l #[.int .i64 (i : Int), .agg #[.int .u64 ((limb 0 (f i) : Nat) : Int), .int .u64 ((limb 1 (f i) : Nat) : Int), .int .u64 ((limb 2 (f i) : Nat) : Int), .int .u64 ((limb 3 (f i) : Nat) : Int)]] W fun e W' => (e = .returned (.bool true) ∧ J i W') ∨ (e = .returned (.bool false) ∧ Jx i W')) := hY
  clear hJs hJc hY
  gi_wp2
  gi_loopw [3] (fun iv wr => ∃ k : Nat, k ≤ n ∧ iv = .int .i64 ((k : Int) - 1) ∧ J k wr) (fun iv _ => (intOf iv + 1).toNat)
  case atStart => exact ⟨n, Nat.le_refl _, by simp, h0⟩
  case round =>
    obtain ⟨k, hk, rfl, hJ⟩ := hrel
    clear hs0
    have hs := HJS.out k wr hJ
    by_cases hlt : 0 < k
    · obtain ⟨i, rfl⟩ : ∃ i, k = i + 1 := ⟨k - 1, by omega⟩
      have hdi : ((i + 1 : Nat) : Int) - 1 = (i : Int) := by omega
      rw [hdi]
      have hi0 : (0 : Int) ≤ (i : Int) := by omega
      have hin : (i : Int) < (n : Int) := by omega
      obtain ⟨ab, ao, rfl, hc⟩ := HJC.out i wr (by omega) hJ
      have c0 := hc 0 (by decide); have c1 := hc 1 (by decide); have c2 := hc 2 (by decide); have c3 := hc 3 (by decide)
      rw [Nat.add_zero] at c0
      clear hc
      obtain ⟨fn, tmps, assign, body, hy, hR⟩ := HY.out i wr (by omega) hJ
      obtain ⟨x, ex⟩ : ∃ x, x = f i := ⟨_, rfl⟩
      rw [← ex] at c0 c1 c2 c3 hy
      clear ex
      gi_wp2
      refine hR.mono ?_
      rintro e W3 (⟨rfl, hJ3⟩ | ⟨rfl, hJx3⟩)
      · gi_wp2
        go_roundw
        case rel => exact ⟨i, by omega, by simp, hJ3⟩
        case measure => simp [intOf]
      · gi_wp2
        refine bodyPost_ret (results_none rfl _ _ _) rfl ?_
        exact ⟨⟨_, rfl⟩, .inr ⟨i, by omega, hJx3⟩⟩
    · obtain rfl : k = 0 := by omega
      gi_wp2
      go_end0
      exact ⟨⟨_, rfl⟩, .inl hJ⟩
/-- How a round's body may be left. -/
def bwPost (H : Nat) (J : Nat → World → Prop) (Jx : Code → Nat → World → Prop) (i : Nat) (W : World) : Exit → Act → World → Prop
  | .normal, _, W' => Kr H W W' ∧ J i W'
  | .ret, _, W' => Kr H W W' ∧ Jx .ret i W'
  | .exit id, _, W' => Kr H W W' ∧ Jx (.exit id) i W'
  | .goto t, _, W' => Kr H W W' ∧ Jx (.goto t) i W'
  | .panic _, _, _ => False
  | .outgrown, _, _ => False
set_option maxHeartbeats 2000000 in
/-- 'for i, c := range slices.Backward(list)': J i: i elements are left. -/
theorem wp_backward {g : Operand} {ps : Array Tmp} {assign body : Code} {Q : Exit → Act → World → Prop} {a : Act} {w : World} (Bs n cn : Nat) (oa : Option Addr) (f : Nat → Nat) (hn : n ≤ 1000000)
    (hg : a.eval g = .func (.func 50) #[] #[.pointer (some ⟨Bs, 0, none⟩)]) (hps : ps.size = 2) (J : Nat → World → Prop) (Jx : Code → Nat → World → Prop)
    (hJ : ∀ i W W', Below w.heap.size W W' → J i W → J i W') (hJx : ∀ c i W W', Below w.heap.size W W' → Jx c i W → Jx c i W')
    (hJs : ∀ i W, J i W → W.cell? ⟨Bs, 0, none⟩ = some (.slice oa n cn))
    (hJc : ∀ i W, i < n → J (i + 1) W → ∃ ab ao, oa = some ⟨ab, ao, none⟩ ∧ ∀ j, j < 4 → W.cell? ⟨ab, ao + i * 4 + j, none⟩ = some (.int .u64 ((limb j (f i) : Nat) : Int)))
    (h0 : J n w)
    (hround : ∀ l i W, w.heap.size < l → l < W.heap.size → i < n → J (i + 1) W → assign.wpIn (Fence.wide.inRound l) 2 Tryd.prog (Exit.then (fun a₁ W1 => (Kr w.heap.size W W1 ∧ J (i + 1) W1) ∧ ∀ W2, (∀ b, b ≠ l → W2.heap[b]? = W1.heap[b]?) → W2.heap.size = W1.heap.size → J (i + 1) W2 → body.wpIn (Fence.wide.inRound l) 2 Tryd.prog (bwPost w.heap.size J Jx i W2) a₁ W2) (fun _ _ _ => False)) { tmps := (ps.zip #[.int .i64 (i : Int), .agg #[.int .u64 ((limb 0 (f i) : Nat) : Int), .int .u64 ((limb 1 (f i) : Nat) : Int), .int .u64 ((limb 2 (f i) : Nat) : Int), .int .u64 ((limb 3 (f i) : Nat) : Int)]]).foldl (fun t (p, v) => t.setIfInBounds p v) a.tmps, defers := [] } W)
    (hdone : ∀ D W, w.heap.size ≤ D → J 0 W → W.heap[D]? = some (.deferred (some [])) → Q .normal { a with defers := { target := .collected D, args := #[] } :: a.defers } W)
    (hstop : ∀ D c i W, w.heap.size ≤ D → i < n → Jx c i W → W.heap[D]? = some (.deferred (some [])) → c.wp Tryd.prog Q { a with defers := { target := .collected D, args := #[] } :: a.defers } W) :
    (Code.rangeFunc g ps assign body).wp Tryd.prog Q a w := by
  refine (wpIn_wide (n := 4)).1 (wpIn_rangeFunc ?_)
  intro fn hfn
  obtain ⟨H, hH⟩ : ∃ H, H = w.heap.size := ⟨_, rfl⟩
  obtain ⟨rec, hrec⟩ : ∃ rec : LoopState → Option Code → Loop, rec = fun st pe => { state := st, pending := pe, fn, tmps := a.tmps, params := ps, assign, body, defers := H } := ⟨_, rfl⟩
  obtain ⟨W1, hW1⟩ : ∃ W1 : World, (w.alloc (.deferred (some []))).alloc (.loop (rec .ready none)) = W1 := ⟨_, rfl⟩
  have hL1 : W1.heap[H + 1]? = some (.loop (rec .ready none)) := by
    rw [← hW1, hH]; have := World.alloc_heap_new (w.alloc (.deferred (some []))) (.loop (rec .ready none)); rwa [World.size_alloc] at this
  have hK1 : W1.heap[H]? = some (.deferred (some [])) := by
    rw [← hW1, hH]; exact (Below.heap_alloc _ _ _ (by simp)).trans (World.alloc_heap_new w _)
  have hb1 : Below H w W1 := by rw [← hW1, hH]; exact ((Below.refl _ w).alloc (Nat.le_refl _) _).alloc (by simp) _
  rw [← hH] at hJ hJx hround hdone hstop
  refine ⟨H + 1, [{ target := .collected H, args := #[] }], W1, { target := .fn (.func 50) #[.pointer (some ⟨Bs, 0, none⟩)], args := #[.func (.yield (H + 1)) #[] #[]] }, W1, 50, #[.func (.yield (H + 1)) #[] #[], .pointer (some ⟨Bs, 0, none⟩)], W1, ?_, ?_, fun _ _ => trivial, ?_, fun hh => by simp [Fence.wide] at hh, ?_⟩
  · rw [← hW1, hrec, hH]; exact run_enterLoop_outer _ _ _ _ _
  · simp only [resolve, hg]
    simp [go_sem]
  · simp [invoke, go_sem]
  · refine (bw_in (H + 1) Bs n cn oa f hn
      (fun i W => J i W ∧ W.heap[H + 1]? = some (.loop (rec .ready none)) ∧ W.heap[H]? = some (.deferred (some [])))
      (fun i W => ∃ c, Jx c i W ∧ W.heap[H + 1]? = some (.loop (rec .done (some c))) ∧ W.heap[H]? = some (.deferred (some [])))
      (fun i W h => hJs i W h.1) (fun i W hi h => hJc i W hi h.1) ?_ W1 ⟨hJ _ _ _ hb1 h0, hL1, hK1⟩).mono ?_
    · rintro i W hi ⟨hj, hl, hk⟩
      have hlt : H + 1 < W.heap.size := (Array.getElem?_eq_some_iff.1 hl).1
      have hy := run_yield (P := Tryd.prog) (args := #[.int .i64 (i : Int), .agg #[.int .u64 ((limb 0 (f i) : Nat) : Int), .int .u64 ((limb 1 (f i) : Nat) : Int), .int .u64 ((limb 2 (f i) : Nat) : Int), .int .u64 ((limb 3 (f i) : Nat) : Int)]]) hl (by rw [hrec]; exact hps.symm)
      rw [hrec] at hy
      refine ⟨fn, _, assign, body, hy, roundIn_of_wpIn hfn (wpIn_mono (hround (H + 1) i W (by omega) hlt hi hj) ?_)⟩
      intro e a1 V1 hq
      cases e with
      | normal =>
        obtain ⟨⟨hkr, hj1⟩, hbody⟩ := hq
        have hl1 : V1.heap[H + 1]? = some (.loop (rec .ready none)) := (hkr.2 _ (by omega) hlt).trans hl
        have hk1 : V1.heap[H]? = some (.deferred (some [])) := (hkr.2 _ (Nat.le_refl _) (by omega)).trans hk
        have hlt1 : H + 1 < V1.heap.size := (Array.getElem?_eq_some_iff.1 hl1).1
        refine ⟨_, run_beginRound hl1 (by rw [hrec]), ?_⟩
        obtain ⟨V2, hV2⟩ : ∃ V2 : World, V2 = V1.putObj (H + 1) (.loop { rec .ready none with state := .busy }) := ⟨_, rfl⟩
        rw [← hV2]
        have hl2 : V2.heap[H + 1]? = some (.loop { rec .ready none with state := .busy }) := by rw [hV2]; exact World.putObj_heap_same hlt1
        have hk2 : V2.heap[H]? = some (.deferred (some [])) := by rw [hV2]; exact (World.putObj_heap_other (by omega)).trans hk1
        have hj2 : J (i + 1) V2 := by rw [hV2]; exact hJ _ _ _ (put_below (by omega) _) hj1
        refine wpIn_mono (hbody V2 (fun b hb => by rw [hV2]; exact World.putObj_heap_other hb) (by rw [hV2]; exact World.putObj_size) hj2) ?_
        have hlt2 : H + 1 < V2.heap.size := (Array.getElem?_eq_some_iff.1 hl2).1
        have fin : ∀ (jump : Option Code) (V3 : World), Kr H V2 V3 → ∃ V4, (Instr.endRound (H + 1) jump).run Tryd.prog V3 = .ok (.bool jump.isNone) V4 ∧ Below H V3 V4 ∧ V4.heap[H + 1]? = some (.loop (rec (if jump.isNone then .ready else .done) jump)) ∧ V4.heap[H]? = some (.deferred (some [])) := fun jump V3 hk3 => by
          have hl3 := (hk3.2 _ (by omega) hlt2).trans hl2
          have hd3 := (hk3.2 _ (Nat.le_refl _) (by omega)).trans hk2
          have hlt3 : H + 1 < V3.heap.size := (Array.getElem?_eq_some_iff.1 hl3).1
          have hr := run_endRound (P := Tryd.prog) jump hl3
          rw [hrec] at hr ⊢
          exact ⟨_, hr, put_below (by omega) _, World.putObj_heap_same hlt3, (World.putObj_heap_other (by omega)).trans hd3⟩
        rintro e a3 V3 hp
        cases e with
        | normal =>
          obtain ⟨V4, hr, hb4, hl4, hk4⟩ := fin none V3 hp.1
          exact ⟨_, _, hr, .inl ⟨rfl, hJ _ _ _ hb4 hp.2, hl4, hk4⟩⟩
        | ret =>
          obtain ⟨V4, hr, hb4, hl4, hk4⟩ := fin (some .ret) V3 hp.1
          exact ⟨_, _, hr, .inr ⟨rfl, .ret, hJx _ _ _ _ hb4 hp.2, hl4, hk4⟩⟩
        | exit id =>
          obtain ⟨V4, hr, hb4, hl4, hk4⟩ := fin (some (.exit id)) V3 hp.1
          exact ⟨_, _, hr, .inr ⟨rfl, .exit id, hJx _ _ _ _ hb4 hp.2, hl4, hk4⟩⟩
        | goto t =>
          obtain ⟨V4, hr, hb4, hl4, hk4⟩ := fin (some (.goto t)) V3 hp.1
          exact ⟨_, _, hr, .inr ⟨rfl, .goto t, hJx _ _ _ _ hb4 hp.2, hl4, hk4⟩⟩
        | panic ch => exact hp.elim
        | outgrown => exact hp.elim
      | exit id => exact hq.elim
      | goto t => exact hq.elim
      | ret => exact hq.elim
      | panic chain => exact hq.elim
      | outgrown => exact hq.elim
    · rintro e W2 ⟨⟨v, rfl⟩, (⟨hj, hl, hk⟩ | ⟨i, hi, c, hj, hl, hk⟩)⟩
      · exact ⟨none, _, by have := run_endLoop (P := Tryd.prog) hl (by rw [hrec]; simp); rw [hrec] at this; exact this, hdone _ _ (Nat.le_refl _) (hJ _ _ _ (put_below (by omega) _) hj) ((World.putObj_heap_other (by omega)).trans hk)⟩
      · exact ⟨some c, _, by have := run_endLoop (P := Tryd.prog) hl (by rw [hrec]; simp); rw [hrec] at this; exact this, wpIn_wide.2 (hstop _ c i _ (Nat.le_refl _) hi (hJx _ _ _ _ (put_below (by omega) _) hj) ((World.putObj_heap_other (by omega)).trans hk))⟩
end Go.Proofs.YtfahhohhpjlhnaaDoor
