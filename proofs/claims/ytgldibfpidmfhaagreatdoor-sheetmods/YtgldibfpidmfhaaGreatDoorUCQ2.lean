/- expr.Queries. -/
import Derived.Test.YtgldibfpidmfhaaGreatDoorUCQ1
namespace Go.Proofs.YtgldibfpidmfhaaGreatDoor
open Go.RowKit
open Go.Maps
def qOf (T : Int × Int × Int × Nat) : Int × Int × Int := (T.1, T.2.1, T.2.2.1)
/-- Is q a query of the first k nodes? -/
def seen (T : Nat → Int × Int × Int × Nat) (k : Nat) (q : Int × Int × Int) : Bool := decide (∃ j, j < k ∧ isQ (T j).1 = true ∧ qOf (T j) = q)
def nwQ (T : Nat → Int × Int × Int × Nat) (k : Nat) : Bool := isQ (T k).1 && !seen T k (qOf (T k))
def qN (T : Nat → Int × Int × Int × Nat) : Nat → Nat
  | 0 => 0
  | k + 1 => if nwQ T k = true then qN T k + 1 else qN T k
def qF (T : Nat → Int × Int × Int × Nat) : Nat → Nat → Int × Int × Int
  | 0, _ => (0, 0, 0)
  | k + 1, i => if nwQ T k = true ∧ i = qN T k then qOf (T k) else qF T k i
theorem qN_le (T : Nat → Int × Int × Int × Nat) : ∀ k, qN T k ≤ k
  | 0 => Nat.le_refl _
  | k + 1 => by
    have ih := qN_le T k
    show (if nwQ T k = true then qN T k + 1 else qN T k) ≤ k + 1
    split <;> omega
theorem seen_not {T : Nat → Int × Int × Int × Nat} {k : Nat} (h : isQ (T k).1 = false) : seen T (k + 1) = seen T k := by
  funext q
  refine decide_eq_decide.mpr ⟨fun ⟨j, hj, h1, h2⟩ => ⟨j, ?_, h1, h2⟩, fun ⟨j, hj, h1, h2⟩ => ⟨j, by omega, h1, h2⟩⟩
  rcases Nat.lt_or_ge j k with h3 | h3
  · exact h3
  · rw [show j = k by omega, h] at h1; cases h1
theorem seen_put {T : Nat → Int × Int × Int × Nat} {k : Nat} (h : isQ (T k).1 = true) : seen T (k + 1) = fun p => seen T k p || decide (p = qOf (T k)) := by
  funext q
  unfold seen
  rw [Bool.eq_iff_iff, Bool.or_eq_true, decide_eq_true_iff, decide_eq_true_iff, decide_eq_true_iff]
  constructor
  · rintro ⟨j, hj, h1, h2⟩
    rcases Nat.lt_or_ge j k with h3 | h3
    · exact Or.inl ⟨j, h3, h1, h2⟩
    · rw [show j = k by omega] at h2; exact Or.inr h2.symm
  · rintro (⟨j, hj, h1, h2⟩ | h1)
    · exact ⟨j, by omega, h1, h2⟩
    · exact ⟨k, by omega, h, h1.symm⟩
theorem seen_old {T : Nat → Int × Int × Int × Nat} {k : Nat} (hq : isQ (T k).1 = true) (h : seen T k (qOf (T k)) = true) : seen T (k + 1) = seen T k := by
  rw [seen_put hq]
  funext p
  by_cases hp : p = qOf (T k)
  · rw [hp, h, Bool.true_or]
  · rw [decide_eq_false hp, Bool.or_false]
theorem list_keep {T : Nat → Int × Int × Int × Nat} {k : Nat} (h : nwQ T k = false) : qN T (k + 1) = qN T k ∧ ∀ i, qF T (k + 1) i = qF T k i :=
  ⟨if_neg (by rw [h]; decide), fun i => if_neg (fun a => by rw [h] at a; exact absurd a.1 (by decide))⟩
theorem own_same {w : World} {base s n m : Nat} {t : TypeId} {v : Value} {F G : Nat → Nat → Value} (h : w.ownsRow base t s v n (rwl s F n)) (hn : m = n) (hF : ∀ i, i < n → ∀ j, j < s → G i j = F i j) : w.ownsRow base t s v m (rwl s G m) := by
  subst hn
  rw [rwl_congr (G := F) hF]
  exact h
theorem nil_as (w : World) : (Instr.typeAssert .nilIface 147 151 true).run Tryz.prog w = .ok (.tuple #[.agg #[.int .i64 0, .int .i64 0, .int .i64 0], .bool false]) w := by kernel_rfl
theorem one_Rs3 (w : World) (t : TypeId) (q : Int × Int × Int) : Rs (w.alloc (.cells #[.int .i64 q.1, .int .i64 q.2.1, .int .i64 q.2.2] t)) (.slice (some ⟨w.heap.size, 0, none⟩) 1 1) 3 1 (fun _ => qC q) := by
  refine BlkR.Rs (t := t) ⟨#[.int .i64 q.1, .int .i64 q.2.1, .int .i64 q.2.2], ?_, rfl, ?_⟩ (by decide)
  · show (w.heap.push _)[w.heap.size]? = _; simp
  · intro i hi j hj
    have : i = 0 := by omega
    have hc : j = 0 ∨ j = 1 ∨ j = 2 := by omega
    subst i
    rcases hc with rfl | rfl | rfl <;> rfl
set_option maxHeartbeats 16000000 in
set_option maxRecDepth 100000 in
theorem queries_any (n cn : Nat) (oa : Option Addr) (T : Nat → Int × Int × Int × Nat) (hn : n ≤ 1000000) (hT : ∀ i, i < n → isQ (T i).1 = true → rng (T i).2.1 ∧ rng (T i).2.2.1) (w : World) (hv : Rs w (.slice oa n cn) 7 n (fun i => nC (T i))) :
    Calls Tryz.prog 62 #[.slice oa n cn] w fun e w' => (∃ v, e = .returned v ∧ w'.ownsRow w.heap.size 118 3 v (qN T n) (rwl 3 (fun i => qC (qF T n i)) (qN T n))) ∧ Below w.heap.size w w' := by
  obtain ⟨iq, hiq, hq0, hq1, hq2⟩ := qryInf
  have HIQ := (show Hid _ from hiq); have HZQ := (show Hid _ from And.intro hq0 (And.intro hq1 hq2)); clear hiq hq0 hq1 hq2
  obtain ⟨B, eB⟩ : ∃ B, B = w.heap.size := ⟨_, rfl⟩
  obtain ⟨w1, ew1⟩ : ∃ x : World, x = w.alloc (.map #[] 0) := ⟨_, rfl⟩
  have hb1 : Below w.heap.size w w1 := by rw [ew1]; exact bAlloc (Below.refl _ _) _
  have HS1 : Hid (SetQ w1 B 0 (seen T 0)) := by
    have h : seen T 0 = fun _ => false := funext fun q => decide_eq_false (fun ⟨j, hj, _⟩ => by omega)
    show SetQ w1 B 0 (seen T 0)
    rw [h, ew1, eB]; exact SetQ.made w
  have hmm : ∀ t, (Instr.makeMap t none).run Tryz.prog w = .ok (.map (some B)) w1 := fun t => by rw [eB, ew1]; rfl
  have HB1 : Hid (Below w.heap.size w w1) := hb1
  have HEB : Hid (B = w.heap.size) := eB
  have HO1 : Hid (w1.ownsRow (B + 1) 118 3 (.slice none 0 0) (qN T 0) (rwl 3 (fun i => qC (qF T 0 i)) (qN T 0))) := own_nil w1 (B + 1) 118 3
  have HRR : Hid (∀ w', Below w.heap.size w w' → Rs w' (.slice oa n cn) 7 n (fun i => nC (T i))) := fun w' h => hv.below h
  have HTR : Hid (∀ i, i < n → isQ (T i).1 = true → rng (T i).2.1 ∧ rng (T i).2.2.1) := hT
  clear hv hb1 ew1 hT eB
  go_enter Tryz.func62, Tryz.ntmps62
  go_wp2
  clear hmm
  go_loopw [16, 3] (fun iv lv wr => ∃ k : Nat, iv = .int .i64 (k : Int) ∧ k ≤ n ∧ Below w.heap.size w wr ∧ Hid (SetQ wr B k (seen T k)) ∧ Hid (wr.ownsRow (B + 1) 118 3 lv (qN T k) (rwl 3 (fun i => qC (qF T k i)) (qN T k)))) (fun iv _ _ => n - (intOf iv).toNat)
  case atStart => exact ⟨0, rfl, Nat.zero_le _, HB1.out, HS1, HO1⟩
  case round =>
    obtain ⟨k, rfl, hk, hbr, HS, HO⟩ := hrel
    obtain ⟨ol, cl, hsh, _⟩ := own_shape HO.out
    subst hsh
    clear HS1 HO1 HB1
    by_cases hlt : k < n
    · have hki : (k : Int) < (n : Int) := by omega
      have hk0 : (0 : Int) ≤ (k : Int) := by omega
      rcases HRR.out wr hbr with ⟨_, h0⟩ | ⟨ab, ao, c', hv, _, _, lab, hcell⟩
      · omega
      cases hv
      obtain ⟨O, X, Y, Z, hE⟩ : ∃ O X Y Z, T k = (O, X, Y, Z) := ⟨_, _, _, _, rfl⟩
      obtain ⟨t0, t1, t2, t3, t4, t5, t6⟩ := nC_cells O X Y Z
      have b0 := hcell k hlt 0 (by decide); have b1 := hcell k hlt 1 (by decide); have b2 := hcell k hlt 2 (by decide); have b3 := hcell k hlt 3 (by decide); have b4 := hcell k hlt 4 (by decide); have b5 := hcell k hlt 5 (by decide); have b6 := hcell k hlt 6 (by decide)
      dsimp only at b0 b1 b2 b3 b4 b5 b6
      rw [hE] at b0 b1 b2 b3 b4 b5 b6
      rw [t0] at b0; rw [t1] at b1; rw [t2] at b2; rw [t3] at b3; rw [t4] at b4; rw [t5] at b5; rw [t6] at b6
      rw [Nat.add_zero] at b0
      have HE : Hid (T k = (O, X, Y, Z)) := hE
      obtain ⟨a1, ea1⟩ : ∃ x : World, x = wr.alloc (.cells #[.int .i64 O, .int .i64 X, .int .i64 Y, .int .u64 ((limb 0 Z : Nat) : Int), .int .u64 ((limb 1 Z : Nat) : Int), .int .u64 ((limb 2 Z : Nat) : Int), .int .u64 ((limb 3 Z : Nat) : Int)] 56) := ⟨_, rfl⟩
      have hA1 : Below wr.heap.size wr a1 := by rw [ea1]; exact bAlloc (Below.refl _ _) _
      obtain ⟨N6, eN6⟩ : ∃ x, x = wr.heap.size := ⟨_, rfl⟩
      have g6 : a1.heap[N6]? = some (.cells #[.int .i64 O, .int .i64 X, .int .i64 Y, .int .u64 ((limb 0 Z : Nat) : Int), .int .u64 ((limb 1 Z : Nat) : Int), .int .u64 ((limb 2 Z : Nat) : Int), .int .u64 ((limb 3 Z : Nat) : Int)] 56) := by rw [ea1, eN6]; show (wr.heap.push _)[wr.heap.size]? = _; simp
      have HBR : Hid (Below w.heap.size w wr) := hbr
      have HA1 : Hid (Below wr.heap.size wr a1) := hA1
      clear hcell t0 t1 t2 t3 t4 t5 t6 hE hbr hA1 lab
      go_upto_region 6 with fail
      rw [← ea1, ← eN6]
      clear b0 b1 b2 b3 b4 b5 b6 ea1 eN6
      obtain ⟨b0, b1, b2, b3, b4, b5, b6⟩ := cells7 g6
      clear g6
      go_wp2_with fail
      refine (opOf_any O X Y Z a1).mono ?_
      rintro e a2 ⟨rfl, hA2⟩
      have HA2 : Hid (Below wr.heap.size wr a2) := bStep HA1.out hA2
      clear b0 b1 b2 b3 b4 b5 b6 hA2
      obtain ⟨bq, ebq⟩ : ∃ b, b = isQ (T k).1 := ⟨_, rfl⟩
      cases bq
      · have HNW : Hid (nwQ T k = false) := by show nwQ T k = false; unfold nwQ; rw [← ebq, Bool.false_and]
        have HSN : Hid (SetQ (a2.alloc (.cells #[.int .i64 0, .int .i64 0, .int .i64 0] 151)) B (k + 1) (seen T (k + 1))) := by
          rw [seen_not ebq.symm]
          obtain ⟨D, h1, h2⟩ := (HS.out.below HA2.out).below (bAlloc (Below.refl _ _) (.cells #[.int .i64 0, .int .i64 0, .int .i64 0] 151))
          exact ⟨D, h1.mono (by omega), h2⟩
        have HON : Hid ((a2.alloc (.cells #[.int .i64 0, .int .i64 0, .int .i64 0] 151)).ownsRow (B + 1) 118 3 (.slice ol (qN T k) cl) (qN T (k + 1)) (rwl 3 (fun i => qC (qF T (k + 1) i)) (qN T (k + 1)))) := own_same (own_below (own_below HO.out HA2.out) (bAlloc (Below.refl _ _) _)) (list_keep HNW.out).1 (fun i _ j _ => by rw [(list_keep HNW.out).2])
        have HBN : Hid (Below w.heap.size w (a2.alloc (.cells #[.int .i64 0, .int .i64 0, .int .i64 0] 151))) := bAlloc (bStep HBR.out HA2.out) _
        by_cases hok : 1 ≤ O ∧ O ≤ 8
        · obtain ⟨ty, pv, eif, hta⟩ := opT_n (T k) ebq.symm (by rw [HE.out]; exact decide_eq_true hok)
          rw [HE.out] at eif
          have eif' : opV O X Y Z = .iface ty pv := eif
          rw [eif', show okO O = true from decide_eq_true hok]
          clear ebq eif eif' hok
          go_wp2
          go_roundw
          case measure => simp [intOf]; omega
          case rel => exact ⟨k + 1, by go_num, hlt, HBN.out, HSN, HON⟩
        · rw [opV_none O X Y Z hok, show okO O = false from decide_eq_false hok]
          have hta := nil_as
          clear ebq hok
          go_wp2
          go_roundw
          case measure => simp [intOf]; omega
          case rel => exact ⟨k + 1, by go_num, hlt, HBN.out, HSN, HON⟩
      · have hO : 2 ≤ O ∧ O ≤ 4 := by rw [HE.out] at ebq; exact of_decide_eq_true ebq.symm
        have eif : opV O X Y Z = .iface 151 (.agg #[.int .i64 O, .int .i64 X, .int .i64 Y]) := by
          have h := opT_q (T k) ebq.symm
          rw [HE.out] at h
          exact h
        rw [eif, show okO O = true from decide_eq_true ⟨by omega, by omega⟩]
        have hta := as_q O X Y
        have HQK : Hid (isQ (T k).1 = true) := ebq.symm
        have HQO : Hid (qOf (T k) = (O, X, Y)) := by show qOf (T k) = _; rw [HE.out]; rfl
        have HQR : Hid (rngQ (O, X, Y)) := by
          have h := HTR.out k hlt HQK.out
          rw [HE.out] at h
          exact ⟨⟨by show _ ≤ O; omega, by show O ≤ _; omega⟩, h.1, h.2⟩
        obtain ⟨a3, ea3⟩ : ∃ x : World, x = a2.alloc (.cells #[.int .i64 O, .int .i64 X, .int .i64 Y] 151) := ⟨_, rfl⟩
        have hA3 : Below a2.heap.size a2 a3 := by rw [ea3]; exact bAlloc (Below.refl _ _) _
        obtain ⟨N9, eN9⟩ : ∃ x, x = a2.heap.size := ⟨_, rfl⟩
        have g9 : a3.heap[N9]? = some (.cells #[.int .i64 O, .int .i64 X, .int .i64 Y] 151) := by rw [ea3, eN9]; show (a2.heap.push _)[a2.heap.size]? = _; simp
        have HA3 : Hid (Below wr.heap.size wr a3) := bStep HA2.out hA3
        have HS3 : Hid (SetQ a3 B k (seen T k)) := HS.out.below HA3.out
        obtain ⟨ag, eag⟩ : ∃ b, b = seen T k (O, X, Y) := ⟨_, rfl⟩
        have hlk := HS3.out.look (O, X, Y) HQR.out
        rw [← eag] at hlk
        dsimp only at hlk
        have ha3 : a2.alloc (.cells #[.int .i64 O, .int .i64 X, .int .i64 Y] 151) = a3 := ea3.symm
        have hN9 : a2.heap.size = N9 := eN9.symm
        have z0 : a3.cell? ⟨N9, 0, none⟩ = some (.int .i64 O) := cell_of_block g9 0
        have z1 : a3.cell? ⟨N9, 1, none⟩ = some (.int .i64 X) := cell_of_block g9 1
        have z2 : a3.cell? ⟨N9, 2, none⟩ = some (.int .i64 Y) := cell_of_block g9 2
        obtain ⟨a4, ea4⟩ : ∃ x : World, x = a3.alloc (.cells #[] 106) := ⟨_, rfl⟩
        have hA4 : Below a3.heap.size a3 a4 := by rw [ea4]; exact bAlloc (Below.refl _ _) _
        have g94 := (hA4.block N9 (Array.getElem?_eq_some_iff.1 g9).1).trans g9
        have ha4 : a3.alloc (.cells #[] 106) = a4 := ea4.symm
        have HA4 : Hid (Below wr.heap.size wr a4) := bStep HA3.out hA4
        have HS4 : Hid (SetQ a4 B k (seen T k)) := HS3.out.below hA4
        have HG94 : Hid (a4.heap[N9]? = some (.cells #[.int .i64 O, .int .i64 X, .int .i64 Y] 151)) := g94
        have HAG : Hid (ag = seen T k (qOf (T k))) := by show ag = _; rw [HQO.out]; exact eag
        have HBN9 : Hid (B < N9) := by have h1 := HS.out.lt; have h2 := HA2.out.size; show B < N9; omega
        clear ebq hO eif ea3 hA3 eN9 g9 eag ea4 hA4 g94
        go_upto_region 10 with fail
        clear ha3 hN9 z0 z1 z2 ha4 hlk hta
        cases ag
        · obtain ⟨a5, hr5, hs5, hg5⟩ := HS4.out.put (by omega) (O, X, Y) HQR.out
          dsimp only at hr5
          have HNW : Hid (nwQ T k = true) := by show nwQ T k = true; unfold nwQ; rw [HQK.out, ← HAG.out]; rfl
          have g95 : a5.heap[N9]? = some (.cells #[.int .i64 O, .int .i64 X, .int .i64 Y] 151) := (hg5.block N9 (Array.getElem?_eq_some_iff.1 HG94.out).1 (fun e => by cases e; have := HBN9.out; omega)).trans HG94.out
          have y0 : a4.cell? ⟨N9, 0, none⟩ = some (.int .i64 O) := cell_of_block HG94.out 0
          have y1 : a4.cell? ⟨N9, 1, none⟩ = some (.int .i64 X) := cell_of_block HG94.out 1
          have y2 : a4.cell? ⟨N9, 2, none⟩ = some (.int .i64 Y) := cell_of_block HG94.out 2
          have z0 : a5.cell? ⟨N9, 0, none⟩ = some (.int .i64 O) := cell_of_block g95 0
          have z1 : a5.cell? ⟨N9, 1, none⟩ = some (.int .i64 X) := cell_of_block g95 1
          have z2 : a5.cell? ⟨N9, 2, none⟩ = some (.int .i64 Y) := cell_of_block g95 2
          have HBW5 : Hid (Below w.heap.size w a5) := (bStep HBR.out HA4.out).grown hg5 (bStep HBR.out HA4.out).size (fun j hj => by cases hj; have := HEB.out; omega)
          have HO5 : Hid (a5.ownsRow (B + 1) 118 3 (.slice ol (qN T k) cl) (qN T k) (rwl 3 (fun i => qC (qF T k i)) (qN T k))) := own_keep (own_below HO.out HA4.out) (fun b hb => hg5.block b (own_lt (own_below HO.out HA4.out) b hb).2 (fun e => by cases e; have := (own_lt (own_below HO.out HA4.out) B hb).1; omega))
          have HS5 : Hid (SetQ a5 B (k + 1) (seen T (k + 1))) := by
            rw [seen_put HQK.out, HQO.out]; exact hs5
          obtain ⟨M, eM⟩ : ∃ M, M = qN T k := ⟨_, rfl⟩
          have hMk : M ≤ 1000000 := by rw [eM]; have := qN_le T k; omega
          have HEM : Hid (M = qN T k) := eM
          obtain ⟨a6, ea6⟩ : ∃ x : World, x = a5.alloc (.cells #[.int .i64 O, .int .i64 X, .int .i64 Y] 118) := ⟨_, rfl⟩
          have hA6 : Below a5.heap.size a5 a6 := by rw [ea6]; exact bAlloc (Below.refl _ _) _
          have hR6 : Rs a6 (.slice (some ⟨a5.heap.size, 0, none⟩) 1 1) 3 1 (fun _ => qC (O, X, Y)) := by rw [ea6]; exact one_Rs3 a5 118 (O, X, Y)
          have ha6 : a5.alloc (.cells #[.int .i64 O, .int .i64 X, .int .i64 Y] 118) = a6 := ea6.symm
          have HO6 : Hid (a6.ownsRow (B + 1) 118 3 (.slice ol M cl) M (rwl 3 (fun i => qC (qF T k i)) M)) := by rw [eM]; exact own_below HO5.out hA6
          have HSZ : Hid (B + 1 ≤ a6.heap.size) := by have h1 := HS5.out.lt; have h2 := hA6.size; show B + 1 ≤ a6.heap.size; omega
          have HS6 : Hid (SetQ a6 B (k + 1) (seen T (k + 1))) := HS5.out.below hA6
          have HBW6 : Hid (Below w.heap.size w a6) := bStep HBW5.out hA6
          rw [← eM]
          clear eM hs5 hg5 g95 ea6 hA6
          go_wp2_with (first
            | (at_builtin; refine wpList_appR _ rfl _ _ 115 rfl (B + 1) 118 iq (.agg #[.int .i64 0, .int .i64 0, .int .i64 0]) 3 24 Tryz.underlying115 HIQ.out HZQ.out.1 HZQ.out.2.1 HZQ.out.2.2 rfl (by decide) _ M _ rfl HO6.out 1 _ _ rfl hR6 (fun i _ j _ => qC_one _ _) ?c1 ?c2 HSZ.out ?_)
            | go_in)
          case c1 => unfold maxLen; omega
          case c2 => omega
          intro v7 a7 hown7 hg7 hsep7
          have HS7 : Hid (SetQ a7 B (k + 1) (seen T (k + 1))) := HS6.out.keep (hg7.block B HS6.out.lt (fun e => by have := own_ge HO6.out e.symm; omega))
          have HB7 : Hid (Below w.heap.size w a7) := HBW6.out.grown hg7 HBW6.out.size (fun j hj => by have h1 := own_ge HO6.out hj; have h2 := HEB.out; omega)
          have HO7 : Hid (a7.ownsRow (B + 1) 118 3 v7 (qN T (k + 1)) (rwl 3 (fun i => qC (qF T (k + 1) i)) (qN T (k + 1)))) := own_same hown7 (by rw [HEM.out]; exact if_pos HNW.out) (fun i hi j _ => by
            show qC (if nwQ T k = true ∧ i = qN T k then qOf (T k) else qF T k i) j = _
            rw [← HEM.out, HNW.out, HQO.out]
            by_cases h1 : i < M
            · rw [if_neg (fun h => by omega), if_pos h1]
            · rw [if_pos ⟨rfl, by omega⟩, if_neg h1])
          clear hown7 hg7 hsep7 hR6 ha6 hr5 y0 y1 y2 z0 z1 z2
          go_wp2
          go_roundw
          case measure => simp [intOf]; omega
          case rel => exact ⟨k + 1, by go_num, hlt, HB7.out, HS7, HO7⟩
        · have HNW : Hid (nwQ T k = false) := by show nwQ T k = false; unfold nwQ; rw [HQK.out, ← HAG.out]; rfl
          have HSN : Hid (SetQ a4 B (k + 1) (seen T (k + 1))) := by
            rw [seen_old HQK.out HAG.out.symm]
            obtain ⟨D, h1, h2⟩ := HS4.out
            exact ⟨D, h1.mono (by omega), h2⟩
          have HON : Hid (a4.ownsRow (B + 1) 118 3 (.slice ol (qN T k) cl) (qN T (k + 1)) (rwl 3 (fun i => qC (qF T (k + 1) i)) (qN T (k + 1)))) := own_same (own_below HO.out HA4.out) (list_keep HNW.out).1 (fun i _ j _ => by rw [(list_keep HNW.out).2])
          have HBN : Hid (Below w.heap.size w a4) := bStep HBR.out HA4.out
          go_wp2
          go_roundw
          case measure => simp [intOf]; omega
          case rel => exact ⟨k + 1, by go_num, hlt, HBN.out, HSN, HON⟩
    · have hki : ¬ (k : Int) < (n : Int) := by omega
      have ek : n = k := by omega
      subst ek
      have HBF : Hid (Below w.heap.size w wr) := hbr
      have HOF : Hid (wr.ownsRow w.heap.size 118 3 (.slice ol (qN T n) cl) (qN T n) (rwl 3 (fun i => qC (qF T n i)) (qN T n))) := own_base HO.out (by have := HEB.out; omega)
      clear hbr HO
      go_wp2
      go_ret
      exact ⟨⟨_, rfl, HOF.out⟩, HBF.out⟩
end Go.Proofs.YtgldibfpidmfhaaGreatDoor
