/- The reference: Cone. -/
import Derived.Test.YtimjgebiffemnaaDoorCS4
namespace Go.Proofs.YtimjgebiffemnaaDoor
open Go.RowKit

theorem rmk1_keep {m : Nat → Bool} {F : Nat → Int} {p : Nat} (h : m p = true) : ∀ j, mk1 m F j p = true
  | 0 => h
  | j + 1 => by
    show (mk1 m F j p || _) = true
    rw [rmk1_keep h j, Bool.true_or]
theorem BlkR.keep {w w' : World} {t : TypeId} {b s n : Nat} {F : Nat → Nat → Value} (h : BlkR w t b s n F) (hb : w'.heap[b]? = w.heap[b]?) : BlkR w' t b s n F := by
  obtain ⟨c, h1, h2⟩ := h
  exact ⟨c, hb.trans h1, h2⟩
set_option maxHeartbeats 16000000 in
set_option maxRecDepth 100000 in
theorem rcone_in (n cn : Nat) (oa : Option Addr) (T : Nat → Int × Int × Int × Nat) (root : Nat) (hn : n ≤ 1000000) (w : World) (hv : Rs w (.slice oa n cn) 7 n (fun i => nC (T i))) (ho : ordB n T = true) (hr : root < n) :
    Calls Tryd.prog 19 #[.slice oa n cn, .int .i64 (root : Int)] w fun e w' => (∃ v, e = .returned v ∧ w'.ownsRow w.heap.size 3 1 v (cnN T root (root + 1)) (rwl 1 (fun i _ => .int .i64 (cnF T root (root + 1) i)) (cnN T root (root + 1)))) ∧ Below w.heap.size w w' := by
  have HR : Hid (∀ w', Below w.heap.size w w' → Rs w' (.slice oa n cn) 7 n (fun i => nC (T i))) := fun w' h => hv.below h
  have HO : Hid (∀ i, i < n → okN (T i) i = true) := (of_decide_eq_true ho : ∀ i, i < n → okN (T i) i = true)
  obtain ⟨ib, hib, hb0, hb1, hb2⟩ := boolInf
  have HIB := (show Hid _ from hib); have HZB := (show Hid _ from And.intro hb0 (And.intro hb1 hb2)); clear hib hb0 hb1 hb2
  obtain ⟨ii, hii, hi0, hi1, hi2⟩ := intInf
  have HII := (show Hid _ from hii); have HZI := (show Hid _ from And.intro hi0 (And.intro hi1 hi2)); clear hii hi0 hi1 hi2
  obtain ⟨B, eB⟩ : ∃ x, x = w.heap.size := ⟨_, rfl⟩
  obtain ⟨w0, ew0⟩ : ∃ x : World, x = w.alloc (.cells #[] 3) := ⟨_, rfl⟩
  have HO0 : Hid (w0.ownsRow B 3 1 (.slice (some ⟨B, 0, none⟩) 0 0) (cnN T root 0) (rwl 1 (fun i _ => .int .i64 (cnF T root 0 i)) (cnN T root 0))) := by rw [eB, ew0]; exact own_new w 3 1
  have hbz : Below w.heap.size w w0 := by rw [ew0]; exact bAlloc (Below.refl _ _) _
  have HB0 : Hid (Below w.heap.size w w0) := hbz
  have HORD : Hid (Calls _ _ _ _ _) := rordered_any n cn oa T hn w0 (hv.below hbz)
  rw [ho] at HORD
  have HBE : Hid (B = w.heap.size) := eB
  clear hv ho hbz
  have hr0 : ¬ (root : Int) < 0 := by omega
  have hr1 : ¬ (n : Int) ≤ (root : Int) := by omega
  have hr2 : decide ((root : Int) < 0) = false := decide_eq_false hr0
  have hr3 : (root : Int) < (n : Int) := by omega
  have hr4 : (0 : Int) ≤ (root : Int) := by omega
  go_enter Tryd.func19, Tryd.ntmps19
  go_upto_region 2 with fail
  rw [← ew0, ← eB]
  clear ew0 eB
  go_wp2_with fail
  refine Calls.mono HORD.out ?_
  rintro e w1 ⟨rfl, hb1⟩
  have HO1 : Hid (w1.ownsRow B 3 1 (.slice (some ⟨B, 0, none⟩) 0 0) (cnN T root 0) (rwl 1 (fun i _ => .int .i64 (cnF T root 0 i)) (cnN T root 0))) := own_below HO0.out hb1
  have HB1 : Hid (Below w.heap.size w w1) := bStep HB0.out hb1
  clear HORD HO0 HB0 hb1
  go_wp2_with (first
    | (at_make; refine wpList_make_full _ rfl _ _ 74 rfl w1.heap.size 4 ib (.bool false) 1 Tryd.underlying74 HIB.out HZB.out.1 HZB.out.2.1 .i64 .i64 n n n rfl rfl rfl rfl ?c1 ?c2 (Nat.le_refl _) ?_)
    | go_in)
  case c1 => rw [HZB.out.2.2]; omega
  case c2 => unfold maxLen; omega
  intro w2 hown hgrow
  obtain ⟨G, eG⟩ : ∃ G, G = w1.heap.size := ⟨_, rfl⟩
  have lG : w1.heap.size ≤ G := by omega
  rw [← eG] at hown ⊢
  have bo2 : BlkR w2 4 G 1 n (fun _ _ => .bool false) := (own_blkR (F := fun _ _ => .bool false) hown (fun i hi j hj => made_bool n i j hi hj)).1
  have hbe : Below w1.heap.size w1 w2 := (Below.refl _ w1).grown hgrow (Nat.le_refl _) (fun j hj => by cases hj)
  have cG := bo2.cell root (by omega) 0 (by decide)
  have fG := bo2.frozen
  rw [Nat.mul_one, Nat.add_zero] at cG
  have bo3 : BlkR (w2.setCell ⟨G, root, none⟩ (.bool true)) 4 G 1 n (fun p _ => .bool (mks T root 0 p)) := (bo2.set root 0 root (by omega) (by decide) (by omega) (.bool true)).congr (fun i _ j hj => by
    have hj0 : j = 0 := by omega
    subst hj0
    show Value.bool (decide (i = root)) = _
    by_cases h1 : i = root
    · rw [if_pos ⟨h1, rfl⟩, decide_eq_true h1]
    · rw [if_neg (fun h => h1 h.1), decide_eq_false h1])
  have hb3 : Below w1.heap.size w1 (w2.setCell ⟨G, root, none⟩ (.bool true)) := hbe.setCell lG _
  have HB3 : Hid (BlkR (w2.setCell ⟨G, root, none⟩ (.bool true)) 4 G 1 n (fun p _ => .bool (mks T root 0 p))) := bo3
  have HL3 : Hid (Below w1.heap.size w1 (w2.setCell ⟨G, root, none⟩ (.bool true))) := hb3
  clear hown hgrow eG bo2 bo3 hb3 hbe
  go_wp2
  go_loopw [7] (fun iv wr => ∃ q : Int, iv = .int .i64 q ∧ -1 ≤ q ∧ q ≤ (root : Int) ∧ Below w1.heap.size w1 wr ∧ Hid (BlkR wr 4 G 1 n (fun p _ => .bool (mks T root ((root : Int) - q).toNat p)))) (fun iv _ => (intOf iv + 1).toNat)
  case atStart => exact ⟨(root : Int), rfl, by omega, by omega, HL3.out, by rw [Int.sub_self]; exact HB3.out⟩
  case round =>
    obtain ⟨q, rfl, hq0, hq1, hbr, HBO⟩ := hrel
    clear HB3 HL3 cG fG
    by_cases hge : 0 ≤ q
    · obtain ⟨i, rfl⟩ : ∃ i : Nat, q = (i : Int) := ⟨q.toNat, by omega⟩
      have hir : i ≤ root := by omega
      obtain ⟨s, es⟩ : ∃ s, s = root - i := ⟨_, rfl⟩
      have bo : BlkR wr 4 G 1 n (fun p _ => .bool (mks T root s p)) := by
        have h := HBO.out
        rw [show ((root : Int) - (i : Int)).toNat = s by omega] at h
        exact h
      have HSN : Hid (∀ q : Int, q = (i : Int) - 1 → ((root : Int) - q).toNat = s + 1) := fun q hq => by omega
      have HSI : Hid (root - s = i) := by show root - s = i; omega
      clear HBO es
      have hi0 : (0 : Int) ≤ (i : Int) := by omega
      have hi1 : (i : Int) < (n : Int) := by omega
      have hi2 : ¬ (i : Int) < 0 := by omega
      have hin : i < n := by omega
      obtain ⟨O, A, X, V, hE⟩ : ∃ O A B V, T i = (O, A, B, V) := ⟨_, _, _, _, rfl⟩
      have hok := HO.out i hin
      unfold okN at hok
      rw [hE, Bool.and_eq_true] at hok
      have hO : 1 ≤ O ∧ O ≤ 8 := of_decide_eq_true hok.1
      have hAh : ∀ j, j < uN O → 0 ≤ uF A X j ∧ uF A X j < (i : Int) := of_decide_eq_true hok.2
      have HE : Hid (T i = (O, A, X, V)) := hE
      have HAH : Hid (∀ j, j < uN O → 0 ≤ uF A X j ∧ uF A X j < (i : Int)) := hAh
      rcases HR.out wr (bStep HB1.out hbr) with ⟨_, h0⟩ | ⟨ab, ao, c', hv, _, _, lab, hcell⟩
      · omega
      cases hv
      have ca : ∀ j, j < 7 → wr.cell? ⟨ab, ao + i * 7 + j, none⟩ = some (nC (T i) j) := fun j hj => hcell i hin j hj
      rw [hE] at ca
      obtain ⟨t0, t1, t2, t3, t4, t5, t6⟩ := nC_cells O A X V
      have a0 := ca 0 (by decide); have a1 := ca 1 (by decide); have a2 := ca 2 (by decide); have a3 := ca 3 (by decide); have a4 := ca 4 (by decide); have a5 := ca 5 (by decide); have a6 := ca 6 (by decide)
      rw [t0] at a0; rw [t1] at a1; rw [t2] at a2; rw [t3] at a3; rw [t4] at a4; rw [t5] at a5; rw [t6] at a6
      rw [Nat.add_zero] at a0
      have HU : Hid (Calls _ _ _ _ _) := ruses_any O A X V wr
      clear ca t0 t1 t2 t3 t4 t5 t6 hE lab hcell hok hAh hO
      go_wp2_with fail
      refine Calls.mono HU.out ?_
      rintro e w3 ⟨⟨uv, rfl, hz⟩, hb4⟩
      have hbr4 := bStep hbr hb4; have bo4 := bo.belowAll hb4
      obtain ⟨ou, cu, rfl⟩ := Rs.shape hz
      have hU2 : uN O ≤ 2 := by unfold uN; split; decide; split <;> decide
      obtain ⟨U, eU⟩ : ∃ U, U = uN O := ⟨_, rfl⟩
      obtain ⟨F, eF⟩ : ∃ F, F = uF A X := ⟨_, rfl⟩
      have hcs : ∃ ub uo, ub ≠ G ∧ (0 < U → ou = some ⟨ub, uo, none⟩) ∧ ∀ j, j < U → w3.cell? ⟨ub, uo + j, none⟩ = some (.int .i64 (F j)) := by
        rw [eU, eF]
        rcases hz with ⟨_, h0⟩ | ⟨ub, uo, c', hv, _, _, _, hcell⟩
        · exact ⟨G + 1, 0, by omega, fun h => by omega, fun j hj => by omega⟩
        · cases hv
          by_cases h0 : uN O = 0
          · exact ⟨G + 1, 0, by omega, fun h => by omega, fun j hj => by omega⟩
          · refine ⟨ub, uo, ?_, fun _ => rfl, fun j hj => by have h := hcell j hj 0 (by decide); rw [Nat.mul_one, Nat.add_zero] at h; exact h⟩
            intro e
            have h := hcell 0 (by omega) 0 (by decide)
            rw [e] at h
            obtain ⟨_, _, h2⟩ := bo4.only h
            cases h2
      obtain ⟨ub, uo, hug, huo, hcu⟩ := hcs
      have HUO : Hid (0 < U → ou = some ⟨ub, uo, none⟩) := huo
      have HCU : Hid (∀ j, j < U → w3.cell? ⟨ub, uo + j, none⟩ = some (.int .i64 (F j))) := hcu
      have HFR : Hid (∀ j, j < U → 0 ≤ F j ∧ F j < (i : Int)) := by rw [eU, eF]; exact HAH.out
      have HEU : Hid (U = uN O) := eU
      have HEF : Hid (F = uF A X) := eF
      rw [← eU] at hU2 ⊢
      have HL4 : Hid (Below w1.heap.size w1 w3) := hbr4
      have HUG : Hid (ub ≠ G) := hug
      obtain ⟨bm, ebm⟩ : ∃ b, b = mks T root s i := ⟨_, rfl⟩
      have HBM : Hid (bm = mks T root s i) := ebm
      have HB4 : Hid (BlkR w3 4 G 1 n (fun p _ => .bool (mk1 (mks T root s) F 0 p))) := bo4
      clear hz hb4 hbr bo a0 a1 a2 a3 a4 a5 a6 huo hcu eU eF HAH HU hbr4 bo4 hug ebm hge
      go_wp2
      go_loopw [9] (fun iv wr => ∃ j : Nat, iv = .int .i64 (j : Int) ∧ j ≤ U ∧ (bm = false → j = 0) ∧ Below w1.heap.size w1 wr ∧ Hid (BlkR wr 4 G 1 n (fun p _ => .bool (mk1 (mks T root s) F j p))) ∧ Hid (∀ j, j < U → wr.cell? ⟨ub, uo + j, none⟩ = some (.int .i64 (F j)))) (fun iv _ => U - (intOf iv).toNat)
      case atStart => exact ⟨0, rfl, Nat.zero_le _, fun _ => rfl, HL4.out, HB4, HCU⟩
      case round =>
        obtain ⟨j, rfl, hjU, hjb, hbi, HBI, HCI⟩ := hrel
        clear HL4 HB4 HCU
        have HJB : Hid (bm = false → j = 0) := hjb
        clear hjb
        by_cases hlt : j < U
        · have hji : (j : Int) < (U : Int) := by omega
          have hj0 : (0 : Int) ≤ (j : Int) := by omega
          have hou := HUO.out (by omega)
          subst hou
          have c0 := HBI.out.cell i hin 0 (by decide)
          rw [Nat.mul_one, Nat.add_zero] at c0
          cases bm
          · have hjz := HJB.out rfl
            subst hjz
            have c0' : wr.cell? ⟨G, i, none⟩ = some (.bool false) := by rw [c0]; show some (Value.bool (mks T root s i)) = _; rw [← HBM.out]
            have HBN : Hid (BlkR wr 4 G 1 n (fun p _ => .bool (mks T root (s + 1) p))) := HBI.out.congr (fun p _ l _ => by
              show Value.bool (if mks T root s (root - s) = true then _ else mks T root s p) = _
              rw [HSI.out, ← HBM.out, if_neg (by decide)]; rfl)
            have HLN : Hid (Below w1.heap.size w1 wr) := hbi
            clear c0 hbi HBI HCI HUO
            go_wp2
            go_roundw
            case measure => simp [intOf]
            case rel =>
              refine ⟨(i : Int) - 1, by go_num, by omega, by omega, HLN.out, ?_⟩
              rw [HSN.out _ rfl]
              exact HBN.out
          · have c0' : wr.cell? ⟨G, i, none⟩ = some (.bool true) := by rw [c0]; show some (Value.bool (mk1 (mks T root s) F j i)) = _; rw [rmk1_keep HBM.out.symm]
            clear c0
            obtain ⟨y, ey⟩ : ∃ y : Nat, F j = (y : Int) := ⟨(F j).toNat, by have := HFR.out j hlt; omega⟩
            have hyr : y < n := by have := HFR.out j hlt; omega
            have a1 := HCI.out j hlt
            rw [ey] at a1
            have hy0 : (0 : Int) ≤ (y : Int) := by omega
            have hy1 : (y : Int) < (n : Int) := by omega
            have c1 := HBI.out.cell y hyr 0 (by decide)
            have f1 := HBI.out.frozen
            rw [Nat.mul_one, Nat.add_zero] at c1
            have hbN := HBI.out.set y 0 y hyr (by decide) (by omega) (.bool true)
            have HBN : Hid (BlkR (wr.setCell ⟨G, y, none⟩ (.bool true)) 4 G 1 n (fun p _ => .bool (mk1 (mks T root s) F (j + 1) p))) := hbN.congr (fun p _ l hl => by
              have hl0 : l = 0 := by omega
              subst hl0
              show Value.bool (mk1 (mks T root s) F j p || decide ((p : Int) = F j)) = _
              rw [ey]
              by_cases h1 : p = y
              · rw [if_pos ⟨h1, rfl⟩, decide_eq_true (by omega), Bool.or_true]
              · rw [if_neg (fun h => h1 h.1), decide_eq_false (by omega), Bool.or_false])
            have HLN : Hid (Below w1.heap.size w1 (wr.setCell ⟨G, y, none⟩ (.bool true))) := hbi.setCell lG _
            have HCN : Hid (∀ j, j < U → (wr.setCell ⟨G, y, none⟩ (.bool true)).cell? ⟨ub, uo + j, none⟩ = some (.int .i64 (F j))) := fun j hj => by
              rw [World.cell?_of_block (w := wr) (Below.heap_setCell wr ⟨G, y, none⟩ (.bool true) ub HUG.out)]
              exact HCI.out j hj
            clear hbN ey hbi HBI HCI HUO
            go_wp2
            go_roundw
            case measure => simp [intOf]; omega
            case rel => exact ⟨j + 1, by go_num, hlt, fun h => (by cases h), HLN.out, HBN, HCN⟩
        · have hji : ¬ (j : Int) < (U : Int) := by omega
          have hjU' : j = U := by omega
          have HBN : Hid (BlkR wr 4 G 1 n (fun p _ => .bool (mks T root (s + 1) p))) := HBI.out.congr (fun p _ l _ => by
            show Value.bool (if mks T root s (root - s) = true then mk1 (mks T root s) (uF (T (root - s)).2.1 (T (root - s)).2.2.1) (uN (T (root - s)).1) p else mks T root s p) = _
            rw [HSI.out, ← HBM.out, HE.out]
            cases bm
            · rw [if_neg (by decide), HJB.out rfl]; rfl
            · rw [if_pos rfl, hjU', HEU.out, HEF.out])
          have HLN : Hid (Below w1.heap.size w1 wr) := hbi
          clear hjU' hbi HBI HCI
          go_wp2
          go_roundw
          case measure => simp [intOf]
          case rel =>
            refine ⟨(i : Int) - 1, by go_num, by omega, by omega, HLN.out, ?_⟩
            rw [HSN.out _ rfl]
            exact HBN.out
    · have HQ : Hid (BlkR wr 4 G 1 n (fun p _ => .bool (inC T root p))) := by
        have h := HBO.out
        rw [show ((root : Int) - q).toNat = root + 1 by omega] at h
        exact h
      have HON : Hid (wr.ownsRow B 3 1 (.slice (some ⟨B, 0, none⟩) 0 0) (cnN T root 0) (rwl 1 (fun i _ => .int .i64 (cnF T root 0 i)) (cnN T root 0))) := own_below HO1.out hbr
      have HLR : Hid (Below w.heap.size w wr) := bStep HB1.out hbr
      obtain ⟨w5, ew5⟩ : ∃ x : World, x = wr := ⟨_, rfl⟩
      subst ew5
      have HGB : Hid (B < G) := by
        have h1 := (own_lt HO1.out B rfl).2
        show B < G
        omega
      have hqn : q < 0 := by omega
      clear HBO hbr hge lG HO1
      go_wp2
      go_loopw [10, 5] (fun iv lv wq => ∃ k : Nat, iv = .int .i64 (k : Int) ∧ k ≤ root + 1 ∧ Below w.heap.size w wq ∧ Hid (BlkR wq 4 G 1 n (fun p _ => .bool (inC T root p)) ∧ ∃ b, lv.ownBlock = some b ∧ b ≠ G) ∧ Hid (wq.ownsRow B 3 1 lv (cnN T root k) (rwl 1 (fun i _ => .int .i64 (cnF T root k i)) (cnN T root k)))) (fun iv _ _ => root + 1 - (intOf iv).toNat)
      case atStart => exact ⟨0, rfl, Nat.zero_le _, HLR.out, ⟨HQ.out, B, rfl, Nat.ne_of_lt HGB.out⟩, HON⟩
      case round =>
        obtain ⟨k, rfl, hk, hbq, HQG, HOW⟩ := hrel
        obtain ⟨ol, cl, hsh, _⟩ := own_shape HOW.out
        subst hsh
        clear HON HQ HLR
        by_cases hlt : k < root + 1
        · have hki : (k : Int) ≤ (root : Int) := by omega
          have hk0 : (0 : Int) ≤ (k : Int) := by omega
          have hkn : (k : Int) < (n : Int) := by omega
          have c0 := HQG.out.1.cell k (by omega) 0 (by decide)
          rw [Nat.mul_one, Nat.add_zero] at c0
          obtain ⟨bm, ebm⟩ : ∃ b, b = inC T root k := ⟨_, rfl⟩
          rw [← ebm] at c0
          have HBM : Hid (bm = inC T root k) := ebm
          clear ebm
          cases bm
          · have HNX : Hid (wr.ownsRow B 3 1 (.slice ol (cnN T root k) cl) (cnN T root (k + 1)) (rwl 1 (fun i _ => .int .i64 (cnF T root (k + 1) i)) (cnN T root (k + 1)))) := by
              have e1 : cnN T root (k + 1) = cnN T root k := if_neg (by rw [← HBM.out]; decide)
              have e2 : ∀ i, cnF T root (k + 1) i = cnF T root k i := fun i => if_neg (fun h => by rw [← HBM.out] at h; exact absurd h.1 (by decide))
              show wr.ownsRow _ _ _ _ _ _
              rw [e1, rwl_congr (G := fun i _ => .int .i64 (cnF T root k i)) (fun i _ j _ => by rw [e2])]
              exact HOW.out
            have HBQ : Hid (Below w.heap.size w wr) := hbq
            clear hbq HOW
            go_wp2
            go_roundw
            case measure => simp [intOf]; omega
            case rel => exact ⟨k + 1, by go_num, hlt, HBQ.out, HQG, HNX⟩
          · obtain ⟨N, eN⟩ : ∃ N, N = cnN T root k := ⟨_, rfl⟩
            have hNk : N ≤ 1000000 := by rw [eN]; have := cnN_le T root k; omega
            have HOA : Hid ((wr.alloc (.cells #[.int .i64 (k : Int)] 3)).ownsRow B 3 1 (.slice ol N cl) N (rwl 1 (fun i _ => .int .i64 (cnF T root k i)) N)) := by
              rw [eN]; exact own_below HOW.out (bAlloc (Below.refl _ _) _)
            have HON1 := one_Rs wr 3 (.int .i64 (k : Int))
            have HSZ : Hid (B ≤ (wr.alloc (.cells #[.int .i64 (k : Int)] 3)).heap.size) := by have h1 := hbq.size; have h2 := HBE.out; show _ ≤ _; simp; omega
            rw [← eN] at HOW HQG ⊢
            have HQA : Hid (BlkR (wr.alloc (.cells #[.int .i64 (k : Int)] 3)) 4 G 1 n (fun p _ => .bool (inC T root p)) ∧ G < (wr.alloc (.cells #[.int .i64 (k : Int)] 3)).heap.size ∧ ∃ b, (Value.slice ol N cl).ownBlock = some b ∧ b ≠ G) := ⟨HQG.out.1.belowAll (bAlloc (Below.refl _ _) _), (HQG.out.1.belowAll (bAlloc (Below.refl _ _) _)).lt, HQG.out.2⟩
            have HEN : Hid (N = cnN T root k) := eN
            have HBQ : Hid (Below w.heap.size w (wr.alloc (.cells #[.int .i64 (k : Int)] 3))) := bAlloc hbq _
            clear eN hbq HOW HQG
            go_wp2_with (first
              | (at_builtin; refine wpList_appR _ rfl _ _ 28 rfl B 3 ii (.int .i64 0) 1 8 Tryd.underlying28 HII.out HZI.out.1 HZI.out.2.1 HZI.out.2.2 rfl (by decide) _ N _ rfl HOA.out 1 _ _ rfl HON1 (fun i _ j _ => rfl) ?c1 ?c2 HSZ.out ?_)
              | go_in)
            case c1 => unfold maxLen; omega
            case c2 => omega
            intro v' w7 hown7 hgrow7 hsep7
            have HNX : Hid (w7.ownsRow B 3 1 v' (cnN T root (k + 1)) (rwl 1 (fun i _ => .int .i64 (cnF T root (k + 1) i)) (cnN T root (k + 1)))) := by
              have e1 : cnN T root (k + 1) = N + 1 := by rw [HEN.out]; exact if_pos HBM.out.symm
              show w7.ownsRow _ _ _ _ _ _
              rw [e1, rwl_congr (G := fun i => if i < N then (fun _ => .int .i64 (cnF T root k i)) else (fun _ => .int .i64 (k : Int))) (fun i hi j _ => by
                show Value.int .i64 (if inC T root k = true ∧ i = cnN T root k then (k : Int) else cnF T root k i) = _
                rw [← HEN.out, ← HBM.out]
                by_cases h1 : i < N
                · rw [if_neg (fun h => by omega), if_pos h1]
                · rw [if_pos ⟨rfl, by omega⟩, if_neg h1])]
              exact hown7
            have HB7 : Hid (Below w.heap.size w w7) := HBQ.out.grown hgrow7 (by rw [← HBE.out]; exact HSZ.out) (fun j hj => by rw [← HBE.out]; exact own_ge HOA.out hj)
            have HQ7 : Hid (BlkR w7 4 G 1 n (fun p _ => .bool (inC T root p)) ∧ ∃ b, v'.ownBlock = some b ∧ b ≠ G) := by
              obtain ⟨h1, h2, b, h3, h4⟩ := HQA.out
              refine ⟨h1.keep (hgrow7.block G h2 (by rw [h3]; intro e; cases e; exact h4 rfl)), ?_⟩
              have hs : ∃ b', v'.ownBlock = some b' := by
                rcases hown7.2 with ⟨_, e0⟩ | ⟨g, cap, cur, hL, _⟩
                · omega
                · exact ⟨g, by rw [hL]; rfl⟩
              obtain ⟨b', hb'⟩ := hs
              refine ⟨b', hb', fun e => ?_⟩
              rcases hsep7 b' hb' with h | h
              · rw [h3] at h; cases h; exact h4 e
              · have hz : (wr.alloc (.cells #[.int .i64 (k : Int)] 3)).heap.size = wr.heap.size + 1 := by simp
                omega
            clear hown7 hgrow7 hsep7 HON1 HBQ HOA HSZ HQA
            go_wp2
            go_roundw
            case measure => simp [intOf]; omega
            case rel => exact ⟨k + 1, by go_num, hlt, HB7.out, HQ7, HNX⟩
        · have hki : ¬ (k : Int) ≤ (root : Int) := by omega
          have ek : k = root + 1 := by omega
          have HFIN : Hid (Below w.heap.size w wr) := hbq
          have HOF : Hid (wr.ownsRow w.heap.size 3 1 (.slice ol (cnN T root k) cl) (cnN T root (root + 1)) (rwl 1 (fun i _ => .int .i64 (cnF T root (root + 1) i)) (cnN T root (root + 1)))) := by have h := HOW.out; rw [ek] at h ⊢; rw [← HBE.out]; exact h
          clear HOW hbq ek HQG
          go_wp2
          go_ret
          exact ⟨⟨_, rfl, HOF.out⟩, HFIN.out⟩

end Go.Proofs.YtimjgebiffemnaaDoor
