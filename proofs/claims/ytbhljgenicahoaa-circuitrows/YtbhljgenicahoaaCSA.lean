/- The reference: a circuit's degree. -/
import Derived.Test.YtbhljgenicahoaaCS6
import Derived.Test.YtbhljgenicahoaaCS9
namespace Go.Proofs.Ytbhljgenicahoaa
open Go.RowKit

theorem dgL_range (D G : Nat → Int) (g l m : Nat) (ni nt : Nat → Nat) (In Tb : Nat → Nat → Int) (hD : ∀ i, 0 ≤ D i ∧ D i ≤ 1000) : ∀ i, 0 ≤ dgL D G g l m ni nt In Tb i ∧ dgL D G g l m ni nt In Tb i ≤ 2002
  | 0 => by
    have h := grt_range D G hD g
    show 0 ≤ max (if 0 < l ∨ 0 < m then 4 else 3) (grt D G g + 1) ∧ max (if 0 < l ∨ 0 < m then 4 else 3) (grt D G g + 1) ≤ 2002
    split <;> omega
  | i + 1 => by
    have ih := dgL_range D G g l m ni nt In Tb hD i
    have h1 := grt_range D (In i) hD (ni i)
    have h2 := grt_range D (Tb i) hD (nt i)
    show 0 ≤ max (dgL D G g l m ni nt In Tb i) (2 + grt D (In i) (ni i) + grt D (Tb i) (nt i)) ∧ max (dgL D G g l m ni nt In Tb i) (2 + grt D (In i) (ni i) + grt D (Tb i) (nt i)) ≤ 2002
    omega
set_option maxHeartbeats 16000000 in
set_option maxRecDepth 100000 in
theorem rdegree_in (F A I : Int) (oN oG oL oE : Option Addr) (n cN g cG l cL m cE : Nat) (f : Nat → Value × Value) (ni nt : Nat → Nat) (In Tb : Nat → Nat → Int) (T : Nat → Int × Int × Int × Nat) (G : Nat → Int) (E : Nat → Int × Int) (hn : n ≤ 1000000) (hg : g ≤ 1000000) (hl : l ≤ 1000000) (hm : m ≤ 1000000) (ho : ordB n T = true) (hG : ∀ i, i < g → 0 ≤ G i ∧ G i < (n : Int))
    (hL : ∀ i, i < l → nt i = ni i ∧ (1 ≤ ni i ∧ ni i ≤ 4) ∧ ∀ j, j < ni i → (0 ≤ In i j ∧ In i j < (n : Int)) ∧ 0 ≤ Tb i j ∧ Tb i j < (n : Int)) (w : World)
    (hc : CirQ w (.slice oN n cN) (.slice oG g cG) (.slice oL l cL) (.slice oE m cE) n T g G l f ni nt In Tb m E) :
    Calls Try.prog 29 #[.agg #[.int .i64 F, .int .i64 A, .int .i64 I, .slice oN n cN, .slice oG g cG, .slice oL l cL, .slice oE m cE]] w fun e w' => e = .returned (.int .i64 (dgL (dgs T n) G g l m ni nt In Tb l)) ∧ Below w.heap.size w w' := by
  obtain ⟨w1, ew1⟩ : ∃ x : World, x = w.alloc (.cells #[.int .i64 F, .int .i64 A, .int .i64 I, .slice oN n cN, .slice oG g cG, .slice oL l cL, .slice oE m cE] 27) := ⟨_, rfl⟩
  have hb1 : Below w.heap.size w w1 := by rw [ew1]; exact bAlloc (Below.refl _ _) _
  obtain ⟨b1, eb1⟩ : ∃ x, x = w.heap.size := ⟨_, rfl⟩
  have f1 : w1.heap[b1]? = some (.cells #[.int .i64 F, .int .i64 A, .int .i64 I, .slice oN n cN, .slice oG g cG, .slice oL l cL, .slice oE m cE] 27) := by rw [ew1, eb1]; show (w.heap.push _)[w.heap.size]? = _; simp
  have HF1 : Hid (w1.heap[b1]? = some (.cells #[.int .i64 F, .int .i64 A, .int .i64 I, .slice oN n cN, .slice oG g cG, .slice oL l cL, .slice oE m cE] 27)) := f1
  have HDC : Hid (Calls _ _ _ _ _) := rdeg_in n cN oN T hn w1 (hc.below hb1).1 ho
  have HB1 : Hid (Below w.heap.size w w1) := hb1
  have HCR : Hid (∀ w', Below w.heap.size w w' → CirQ w' (.slice oN n cN) (.slice oG g cG) (.slice oL l cL) (.slice oE m cE) n T g G l f ni nt In Tb m E) := fun w' h => hc.below h
  have HGR : Hid (∀ i, i < g → 0 ≤ G i ∧ G i < (n : Int)) := hG
  have HLR : Hid (∀ i, i < l → nt i = ni i ∧ (1 ≤ ni i ∧ ni i ≤ 4) ∧ ∀ j, j < ni i → (0 ≤ In i j ∧ In i j < (n : Int)) ∧ 0 ≤ Tb i j ∧ Tb i j < (n : Int)) := hL
  obtain ⟨D, eD⟩ : ∃ D, D = dgs T n := ⟨_, rfl⟩
  have HDR : Hid (∀ i, 0 ≤ D i ∧ D i ≤ 1000) := by rw [eD]; exact dgs_range T n (of_decide_eq_true ho : ∀ i, i < n → okN (T i) i = true)
  rw [← eD] at HDC ⊢
  obtain ⟨d0, d1, d2, d3, d4, d5, d6⟩ := cells7 f1
  clear hc f1 hb1 ho hG hL eD
  go_enter Try.func29, Try.ntmps29
  go_upto_region 1 with fail
  rw [← ew1, ← eb1]
  clear ew1 eb1
  go_wp2_with fail
  refine Calls.mono HDC.out ?_
  rintro e w3 ⟨⟨dv, rfl, hdv⟩, hb3⟩
  obtain ⟨od, cd, rfl, _⟩ := own_shape hdv
  have HB3 : Hid (Below w.heap.size w w3) := bStep HB1.out hb3
  have HF3 : Hid (w3.heap[b1]? = some (.cells #[.int .i64 F, .int .i64 A, .int .i64 I, .slice oN n cN, .slice oG g cG, .slice oL l cL, .slice oE m cE] 27)) := (hb3.block b1 (Array.getElem?_eq_some_iff.1 HF1.out).1).trans HF1.out
  have HD3 : Hid (Rs w3 (.slice od n cd) 1 n (fun i _ => .int .i64 (D i))) := own_Rs hdv
  have HG3 : Hid (Zs w3 (.slice oG g cG) g G) := (HCR.out w3 HB3.out).2.1
  have HL3 : Hid (LkQ w3 (.slice oL l cL) l f ni nt In Tb) := (HCR.out w3 HB3.out).2.2.1
  clear HDC hdv hb3 HF1 HB1 HCR d0 d1 d2 d3 d4 d5 d6
  obtain ⟨d0, d1, d2, d3, d4, d5, d6⟩ := cells7 HF3.out
  by_cases hl0 : 0 < l
  · have hl0i : (0 : Int) < (l : Int) := by omega
    have HBA : Hid ((if 0 < l ∨ 0 < m then (4 : Int) else 3) = 4) := if_pos (Or.inl hl0)
    go_wp2
    go_loop [5, 4] (fun iv ov => ∃ (k : Nat) (o : Int), iv = .int .i64 (k : Int) ∧ ov = .int .i64 o ∧ k ≤ g ∧ Hid (o = max 4 (grt D G k + 1))) (fun iv _ => g - (intOf iv).toNat)
    case atStart => exact ⟨0, 4, rfl, rfl, Nat.zero_le _, show (4 : Int) = max 4 (0 + 1) by decide⟩
    case round =>
      obtain ⟨k, o, rfl, rfl, hk, HOO⟩ := hrel
      have hgr := grt_range D G HDR.out k
      have ho0 : 0 ≤ o ∧ o ≤ 1001 := by rw [HOO.out]; omega
      by_cases hlt : k < g
      · have hki : (k : Int) < (g : Int) := by omega
        have hk0 : (0 : Int) ≤ (k : Int) := by omega
        rcases HG3.out with ⟨_, h0⟩ | ⟨gb, go, c', hv, _, _, _, hcell⟩
        · omega
        cases hv
        have hgk := HGR.out k hlt
        obtain ⟨p, ep⟩ : ∃ p : Nat, G k = (p : Int) := ⟨(G k).toNat, by omega⟩
        have hp0 : (0 : Int) ≤ (p : Int) := by omega
        have hp1 : (p : Int) < (n : Int) := by omega
        have gc := hcell k hlt 0 (by decide)
        dsimp only at gc
        rw [Nat.add_zero, Nat.mul_one, ep] at gc
        rcases HD3.out with ⟨_, h0⟩ | ⟨db, dO, c2, hv2, _, _, _, hdc⟩
        · omega
        cases hv2
        have xc := hdc p (by omega) 0 (by decide)
        dsimp only at xc
        rw [Nat.add_zero, Nat.mul_one] at xc
        obtain ⟨x, ex⟩ : ∃ x, x = D p := ⟨_, rfl⟩
        rw [← ex] at xc
        have hx := HDR.out p
        rw [← ex] at hx
        have hx0 := hx.1; have hx1 := hx.2
        have HGK : Hid (grt D G (k + 1) = max (grt D G k) x) := by show max (grt D G k) (D (G k).toNat) = _; rw [ep, ex]; rfl
        have hw : IntKind.i64.wrap (x + 1) = x + 1 := by simp [IntKind.wrap, IntKind.bits, IntKind.signed]; omega
        have hO1 := ho0.2; have hO0 := ho0.1
        clear hcell hdc hgk ep ex hx hgr ho0
        obtain ⟨d0, d1, d2, d3, d4, d5, d6⟩ := cells7 HF3.out
        by_cases hgt : o < x + 1
        · have HN : Hid (x + 1 = max 4 (grt D G (k + 1) + 1)) := by show x + 1 = _; rw [HGK.out]; have := HOO.out; omega
          clear HOO HGK
          go_wp2
          go_round
          case measure => simp [intOf]; omega
          case rel => exact ⟨k + 1, x + 1, by go_num, rfl, hlt, HN⟩
        · have HN : Hid (o = max 4 (grt D G (k + 1) + 1)) := by show o = _; rw [HGK.out]; have := HOO.out; omega
          clear HOO HGK
          go_wp2
          go_round
          case measure => simp [intOf]; omega
          case rel => exact ⟨k + 1, o, by go_num, rfl, hlt, HN⟩
      · have hki : ¬ (k : Int) < (g : Int) := by omega
        have ek : k = g := by omega
        have HZ : Hid (o = dgL D G g l m ni nt In Tb 0) := by show o = max (if 0 < l ∨ 0 < m then 4 else 3) (grt D G g + 1); rw [HOO.out, ek, HBA.out]
        obtain ⟨d0, d1, d2, d3, d4, d5, d6⟩ := cells7 HF3.out
        clear HOO ek hgr ho0
        go_wp2
        go_loop [6, 4] (fun iv ov => ∃ (i : Nat) (o : Int), iv = .int .i64 (i : Int) ∧ ov = .int .i64 o ∧ i ≤ l ∧ Hid (o = dgL D G g l m ni nt In Tb i)) (fun iv _ => l - (intOf iv).toNat)
        case atStart => exact ⟨0, o, rfl, rfl, Nat.zero_le _, HZ⟩
        case round =>
          obtain ⟨i, o, rfl, rfl, hi, HOO⟩ := hrel
          have hor := dgL_range D G g l m ni nt In Tb HDR.out i
          have ho0 : 0 ≤ o ∧ o ≤ 2002 := by rw [HOO.out]; exact hor
          have hO1 := ho0.2; have hO0 := ho0.1
          clear hor ho0 HZ
          by_cases hlt : i < l
          · have hii : (i : Int) < (l : Int) := by omega
            have hi0 : (0 : Int) ≤ (i : Int) := by omega
            obtain ⟨hM, hMb, hIn⟩ := HLR.out i hlt
            have hlq := HL3.out
            obtain ⟨⟨oi, ci, ei⟩, ot, ct, et⟩ := hlq.shape i hlt
            have hzz := hlq.2 i hlt
            rcases hlq.1 with ⟨_, h0⟩ | ⟨lb, lo, c', hv, _, _, _, hcell⟩
            · omega
            cases hv
            have a0 := hcell i hlt 0 (by decide); have a1 := hcell i hlt 1 (by decide)
            dsimp only at a0 a1
            rw [show pC (f i) 0 = .slice oi (ni i) ci from ei, Nat.add_zero] at a0
            rw [show pC (f i) 1 = .slice ot (nt i) ct from et] at a1
            rw [ei, et] at hzz
            rw [hM] at a1 hzz
            obtain ⟨M, eM⟩ : ∃ M, M = ni i := ⟨_, rfl⟩
            rw [← eM] at a0 a1 hzz hMb hIn
            have HEM : Hid (M = ni i ∧ M = nt i) := ⟨eM, by rw [eM, hM]⟩
            have hz1 : Zs w3 (.slice oi M ci) M (In i) := by
              rcases hzz.1 with h | ⟨h, _⟩
              · exact h
              · omega
            have hz2 : Zs w3 (.slice ot M ct) M (Tb i) := by
              rcases hzz.2 with h | ⟨h, _⟩
              · exact h
              · omega
            rcases hz1 with ⟨_, h0⟩ | ⟨ib, io, c1, hv1, _, _, _, hc1⟩
            · omega
            cases hv1
            rcases hz2 with ⟨_, h0⟩ | ⟨tb, tO, c2, hv2, _, _, _, hc2⟩
            · omega
            cases hv2
            have HC1 : Hid (∀ j, j < M → w3.cell? ⟨ib, io + j, none⟩ = some (.int .i64 (In i j))) := fun j hj => by have h := hc1 j hj 0 (by decide); dsimp only at h; rw [Nat.add_zero, Nat.mul_one] at h; exact h
            have HC2 : Hid (∀ j, j < M → w3.cell? ⟨tb, tO + j, none⟩ = some (.int .i64 (Tb i j))) := fun j hj => by have h := hc2 j hj 0 (by decide); dsimp only at h; rw [Nat.add_zero, Nat.mul_one] at h; exact h
            have HIN : Hid (∀ j, j < M → (0 ≤ In i j ∧ In i j < (n : Int)) ∧ 0 ≤ Tb i j ∧ Tb i j < (n : Int)) := hIn
            have hM4 := hMb.2
            clear hcell hzz hc1 hc2 hIn hMb hlq ei et eM hM
            go_wp2
            go_loop [9, 7, 8] (fun iv av bv => ∃ (j : Nat) (a b : Int), iv = .int .i64 (j : Int) ∧ av = .int .i64 a ∧ bv = .int .i64 b ∧ j ≤ M ∧ Hid (a = grt D (In i) j ∧ b = grt D (Tb i) j)) (fun iv _ _ => M - (intOf iv).toNat)
            case atStart => exact ⟨0, 0, 0, rfl, rfl, rfl, Nat.zero_le _, rfl, rfl⟩
            case round =>
              obtain ⟨j, a, b, rfl, rfl, rfl, hj, HAB⟩ := hrel
              have har := grt_range D (In i) HDR.out j
              have hbr := grt_range D (Tb i) HDR.out j
              rw [← HAB.out.1] at har
              rw [← HAB.out.2] at hbr
              have hA0 := har.1; have hA1 := har.2; have hB0 := hbr.1; have hB1 := hbr.2
              clear har hbr
              by_cases hjl : j < M
              · have hji : (j : Int) < (M : Int) := by omega
                have hj0 : (0 : Int) ≤ (j : Int) := by omega
                have hin := HIN.out j hjl
                obtain ⟨p, ep⟩ : ∃ p : Nat, In i j = (p : Int) := ⟨(In i j).toNat, by omega⟩
                obtain ⟨q, eq⟩ : ∃ q : Nat, Tb i j = (q : Int) := ⟨(Tb i j).toNat, by omega⟩
                have hp0 : (0 : Int) ≤ (p : Int) := by omega
                have hp1 : (p : Int) < (n : Int) := by omega
                have hq0 : (0 : Int) ≤ (q : Int) := by omega
                have hq1 : (q : Int) < (n : Int) := by omega
                have pc := HC1.out j hjl
                have qc := HC2.out j hjl
                rw [ep] at pc
                rw [eq] at qc
                rcases HD3.out with ⟨_, h0⟩ | ⟨db, dO, c2, hv2, _, _, _, hdc⟩
                · omega
                cases hv2
                have xc := hdc p (by omega) 0 (by decide)
                have yc := hdc q (by omega) 0 (by decide)
                dsimp only at xc yc
                rw [Nat.add_zero, Nat.mul_one] at xc yc
                obtain ⟨x, ex⟩ : ∃ x, x = D p := ⟨_, rfl⟩
                obtain ⟨y, ey⟩ : ∃ y, y = D q := ⟨_, rfl⟩
                rw [← ex] at xc
                rw [← ey] at yc
                have HGI : Hid (grt D (In i) (j + 1) = max a x) := by show max (grt D (In i) j) (D (In i j).toNat) = _; rw [ep, ex, HAB.out.1]; rfl
                have HGT : Hid (grt D (Tb i) (j + 1) = max b y) := by show max (grt D (Tb i) j) (D (Tb i j).toNat) = _; rw [eq, ey, HAB.out.2]; rfl
                clear hdc hin ep eq ex ey HAB
                by_cases hax : a < x
                · by_cases hby : b < y
                  · have HN : Hid (x = grt D (In i) (j + 1) ∧ y = grt D (Tb i) (j + 1)) := ⟨by rw [HGI.out]; omega, by rw [HGT.out]; omega⟩
                    go_wp2
                    go_round
                    case measure => simp [intOf]; omega
                    case rel => exact ⟨j + 1, x, y, by go_num, rfl, rfl, hjl, HN⟩
                  · have HN : Hid (x = grt D (In i) (j + 1) ∧ b = grt D (Tb i) (j + 1)) := ⟨by rw [HGI.out]; omega, by rw [HGT.out]; omega⟩
                    go_wp2
                    go_round
                    case measure => simp [intOf]; omega
                    case rel => exact ⟨j + 1, x, b, by go_num, rfl, rfl, hjl, HN⟩
                · by_cases hby : b < y
                  · have HN : Hid (a = grt D (In i) (j + 1) ∧ y = grt D (Tb i) (j + 1)) := ⟨by rw [HGI.out]; omega, by rw [HGT.out]; omega⟩
                    go_wp2
                    go_round
                    case measure => simp [intOf]; omega
                    case rel => exact ⟨j + 1, a, y, by go_num, rfl, rfl, hjl, HN⟩
                  · have HN : Hid (a = grt D (In i) (j + 1) ∧ b = grt D (Tb i) (j + 1)) := ⟨by rw [HGI.out]; omega, by rw [HGT.out]; omega⟩
                    go_wp2
                    go_round
                    case measure => simp [intOf]; omega
                    case rel => exact ⟨j + 1, a, b, by go_num, rfl, rfl, hjl, HN⟩
              · have hji : ¬ (j : Int) < (M : Int) := by omega
                have ejM : j = M := by omega
                have HST : Hid (dgL D G g l m ni nt In Tb (i + 1) = max o (2 + a + b)) := by
                  show max (dgL D G g l m ni nt In Tb i) (2 + grt D (In i) (ni i) + grt D (Tb i) (nt i)) = _
                  rw [← HOO.out, HAB.out.1, HAB.out.2, ← HEM.out.1, ← HEM.out.2, ejM]
                have hw1 : IntKind.i64.wrap (2 + a) = 2 + a := by simp [IntKind.wrap, IntKind.bits, IntKind.signed]; omega
                have hw2 : IntKind.i64.wrap (2 + a + b) = 2 + a + b := by simp [IntKind.wrap, IntKind.bits, IntKind.signed]; omega
                clear ejM HAB HOO
                by_cases hgt : o < 2 + a + b
                · have HN : Hid (2 + a + b = dgL D G g l m ni nt In Tb (i + 1)) := by show 2 + a + b = _; rw [HST.out]; omega
                  go_wp2
                  go_round
                  case measure => simp [intOf]; omega
                  case rel => exact ⟨i + 1, 2 + a + b, by go_num, rfl, hlt, HN⟩
                · have HN : Hid (o = dgL D G g l m ni nt In Tb (i + 1)) := by show o = _; rw [HST.out]; omega
                  go_wp2
                  go_round
                  case measure => simp [intOf]; omega
                  case rel => exact ⟨i + 1, o, by go_num, rfl, hlt, HN⟩
          · have hii : ¬ (i : Int) < (l : Int) := by omega
            have ei : i = l := by omega
            have HFN : Hid (o = dgL D G g l m ni nt In Tb l) := by have h := HOO.out; rw [ei] at h; exact h
            clear ei HOO
            go_wp2
            go_ret
            exact ⟨by rw [← HFN.out]; rfl, HB3.out⟩
  have hl0i : ¬ (0 : Int) < (l : Int) := by omega
  have hl0d : decide ((0 : Int) < (l : Int)) = false := decide_eq_false hl0i
  by_cases hm0 : 0 < m
  · have hm0i : (0 : Int) < (m : Int) := by omega
    have HBA : Hid ((if 0 < l ∨ 0 < m then (4 : Int) else 3) = 4) := if_pos (Or.inr hm0)
    go_wp2
    go_loop [5, 4] (fun iv ov => ∃ (k : Nat) (o : Int), iv = .int .i64 (k : Int) ∧ ov = .int .i64 o ∧ k ≤ g ∧ Hid (o = max 4 (grt D G k + 1))) (fun iv _ => g - (intOf iv).toNat)
    case atStart => exact ⟨0, 4, rfl, rfl, Nat.zero_le _, show (4 : Int) = max 4 (0 + 1) by decide⟩
    case round =>
      obtain ⟨k, o, rfl, rfl, hk, HOO⟩ := hrel
      have hgr := grt_range D G HDR.out k
      have ho0 : 0 ≤ o ∧ o ≤ 1001 := by rw [HOO.out]; omega
      by_cases hlt : k < g
      · have hki : (k : Int) < (g : Int) := by omega
        have hk0 : (0 : Int) ≤ (k : Int) := by omega
        rcases HG3.out with ⟨_, h0⟩ | ⟨gb, go, c', hv, _, _, _, hcell⟩
        · omega
        cases hv
        have hgk := HGR.out k hlt
        obtain ⟨p, ep⟩ : ∃ p : Nat, G k = (p : Int) := ⟨(G k).toNat, by omega⟩
        have hp0 : (0 : Int) ≤ (p : Int) := by omega
        have hp1 : (p : Int) < (n : Int) := by omega
        have gc := hcell k hlt 0 (by decide)
        dsimp only at gc
        rw [Nat.add_zero, Nat.mul_one, ep] at gc
        rcases HD3.out with ⟨_, h0⟩ | ⟨db, dO, c2, hv2, _, _, _, hdc⟩
        · omega
        cases hv2
        have xc := hdc p (by omega) 0 (by decide)
        dsimp only at xc
        rw [Nat.add_zero, Nat.mul_one] at xc
        obtain ⟨x, ex⟩ : ∃ x, x = D p := ⟨_, rfl⟩
        rw [← ex] at xc
        have hx := HDR.out p
        rw [← ex] at hx
        have hx0 := hx.1; have hx1 := hx.2
        have HGK : Hid (grt D G (k + 1) = max (grt D G k) x) := by show max (grt D G k) (D (G k).toNat) = _; rw [ep, ex]; rfl
        have hw : IntKind.i64.wrap (x + 1) = x + 1 := by simp [IntKind.wrap, IntKind.bits, IntKind.signed]; omega
        have hO1 := ho0.2; have hO0 := ho0.1
        clear hcell hdc hgk ep ex hx hgr ho0
        obtain ⟨d0, d1, d2, d3, d4, d5, d6⟩ := cells7 HF3.out
        by_cases hgt : o < x + 1
        · have HN : Hid (x + 1 = max 4 (grt D G (k + 1) + 1)) := by show x + 1 = _; rw [HGK.out]; have := HOO.out; omega
          clear HOO HGK
          go_wp2
          go_round
          case measure => simp [intOf]; omega
          case rel => exact ⟨k + 1, x + 1, by go_num, rfl, hlt, HN⟩
        · have HN : Hid (o = max 4 (grt D G (k + 1) + 1)) := by show o = _; rw [HGK.out]; have := HOO.out; omega
          clear HOO HGK
          go_wp2
          go_round
          case measure => simp [intOf]; omega
          case rel => exact ⟨k + 1, o, by go_num, rfl, hlt, HN⟩
      · have hki : ¬ (k : Int) < (g : Int) := by omega
        have ek : k = g := by omega
        have HZ : Hid (o = dgL D G g l m ni nt In Tb 0) := by show o = max (if 0 < l ∨ 0 < m then 4 else 3) (grt D G g + 1); rw [HOO.out, ek, HBA.out]
        obtain ⟨d0, d1, d2, d3, d4, d5, d6⟩ := cells7 HF3.out
        clear HOO ek hgr ho0
        go_wp2
        go_loop [6, 4] (fun iv ov => ∃ (i : Nat) (o : Int), iv = .int .i64 (i : Int) ∧ ov = .int .i64 o ∧ i ≤ l ∧ Hid (o = dgL D G g l m ni nt In Tb i)) (fun iv _ => l - (intOf iv).toNat)
        case atStart => exact ⟨0, o, rfl, rfl, Nat.zero_le _, HZ⟩
        case round =>
          obtain ⟨i, o, rfl, rfl, hi, HOO⟩ := hrel
          have hor := dgL_range D G g l m ni nt In Tb HDR.out i
          have ho0 : 0 ≤ o ∧ o ≤ 2002 := by rw [HOO.out]; exact hor
          have hO1 := ho0.2; have hO0 := ho0.1
          clear hor ho0 HZ
          by_cases hlt : i < l
          · omega
          · have hii : ¬ (i : Int) < (l : Int) := by omega
            have ei : i = l := by omega
            have HFN : Hid (o = dgL D G g l m ni nt In Tb l) := by have h := HOO.out; rw [ei] at h; exact h
            clear ei HOO
            go_wp2
            go_ret
            exact ⟨by rw [← HFN.out]; rfl, HB3.out⟩
  have hm0i : ¬ (0 : Int) < (m : Int) := by omega
  have hm0d : decide ((0 : Int) < (m : Int)) = false := decide_eq_false hm0i
  have HBA : Hid ((if 0 < l ∨ 0 < m then (4 : Int) else 3) = 3) := if_neg (by omega)
  go_wp2
  go_loop [5, 4] (fun iv ov => ∃ (k : Nat) (o : Int), iv = .int .i64 (k : Int) ∧ ov = .int .i64 o ∧ k ≤ g ∧ Hid (o = max 3 (grt D G k + 1))) (fun iv _ => g - (intOf iv).toNat)
  case atStart => exact ⟨0, 3, rfl, rfl, Nat.zero_le _, show (3 : Int) = max 3 (0 + 1) by decide⟩
  case round =>
    obtain ⟨k, o, rfl, rfl, hk, HOO⟩ := hrel
    have hgr := grt_range D G HDR.out k
    have ho0 : 0 ≤ o ∧ o ≤ 1001 := by rw [HOO.out]; omega
    by_cases hlt : k < g
    · have hki : (k : Int) < (g : Int) := by omega
      have hk0 : (0 : Int) ≤ (k : Int) := by omega
      rcases HG3.out with ⟨_, h0⟩ | ⟨gb, go, c', hv, _, _, _, hcell⟩
      · omega
      cases hv
      have hgk := HGR.out k hlt
      obtain ⟨p, ep⟩ : ∃ p : Nat, G k = (p : Int) := ⟨(G k).toNat, by omega⟩
      have hp0 : (0 : Int) ≤ (p : Int) := by omega
      have hp1 : (p : Int) < (n : Int) := by omega
      have gc := hcell k hlt 0 (by decide)
      dsimp only at gc
      rw [Nat.add_zero, Nat.mul_one, ep] at gc
      rcases HD3.out with ⟨_, h0⟩ | ⟨db, dO, c2, hv2, _, _, _, hdc⟩
      · omega
      cases hv2
      have xc := hdc p (by omega) 0 (by decide)
      dsimp only at xc
      rw [Nat.add_zero, Nat.mul_one] at xc
      obtain ⟨x, ex⟩ : ∃ x, x = D p := ⟨_, rfl⟩
      rw [← ex] at xc
      have hx := HDR.out p
      rw [← ex] at hx
      have hx0 := hx.1; have hx1 := hx.2
      have HGK : Hid (grt D G (k + 1) = max (grt D G k) x) := by show max (grt D G k) (D (G k).toNat) = _; rw [ep, ex]; rfl
      have hw : IntKind.i64.wrap (x + 1) = x + 1 := by simp [IntKind.wrap, IntKind.bits, IntKind.signed]; omega
      have hO1 := ho0.2; have hO0 := ho0.1
      clear hcell hdc hgk ep ex hx hgr ho0
      obtain ⟨d0, d1, d2, d3, d4, d5, d6⟩ := cells7 HF3.out
      by_cases hgt : o < x + 1
      · have HN : Hid (x + 1 = max 3 (grt D G (k + 1) + 1)) := by show x + 1 = _; rw [HGK.out]; have := HOO.out; omega
        clear HOO HGK
        go_wp2
        go_round
        case measure => simp [intOf]; omega
        case rel => exact ⟨k + 1, x + 1, by go_num, rfl, hlt, HN⟩
      · have HN : Hid (o = max 3 (grt D G (k + 1) + 1)) := by show o = _; rw [HGK.out]; have := HOO.out; omega
        clear HOO HGK
        go_wp2
        go_round
        case measure => simp [intOf]; omega
        case rel => exact ⟨k + 1, o, by go_num, rfl, hlt, HN⟩
    · have hki : ¬ (k : Int) < (g : Int) := by omega
      have ek : k = g := by omega
      have HZ : Hid (o = dgL D G g l m ni nt In Tb 0) := by show o = max (if 0 < l ∨ 0 < m then 4 else 3) (grt D G g + 1); rw [HOO.out, ek, HBA.out]
      obtain ⟨d0, d1, d2, d3, d4, d5, d6⟩ := cells7 HF3.out
      clear HOO ek hgr ho0
      go_wp2
      go_loop [6, 4] (fun iv ov => ∃ (i : Nat) (o : Int), iv = .int .i64 (i : Int) ∧ ov = .int .i64 o ∧ i ≤ l ∧ Hid (o = dgL D G g l m ni nt In Tb i)) (fun iv _ => l - (intOf iv).toNat)
      case atStart => exact ⟨0, o, rfl, rfl, Nat.zero_le _, HZ⟩
      case round =>
        obtain ⟨i, o, rfl, rfl, hi, HOO⟩ := hrel
        have hor := dgL_range D G g l m ni nt In Tb HDR.out i
        have ho0 : 0 ≤ o ∧ o ≤ 2002 := by rw [HOO.out]; exact hor
        have hO1 := ho0.2; have hO0 := ho0.1
        clear hor ho0 HZ
        by_cases hlt : i < l
        · omega
        · have hii : ¬ (i : Int) < (l : Int) := by omega
          have ei : i = l := by omega
          have HFN : Hid (o = dgL D G g l m ni nt In Tb l) := by have h := HOO.out; rw [ei] at h; exact h
          clear ei HOO
          go_wp2
          go_ret
          exact ⟨by rw [← HFN.out]; rfl, HB3.out⟩

end Go.Proofs.Ytbhljgenicahoaa
