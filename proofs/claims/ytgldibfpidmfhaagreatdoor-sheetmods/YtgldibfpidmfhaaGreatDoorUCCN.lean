/- expr.Cone. -/
import Derived.Test.YtgldibfpidmfhaaGreatDoorUCX
namespace Go.Proofs.YtgldibfpidmfhaaGreatDoor
open Go.RowKit
/-- The marks m, and those at the first j places of F. -/
def mk1 (m : Nat → Bool) (F : Nat → Int) : Nat → Nat → Bool
  | 0, p => m p
  | j + 1, p => mk1 m F j p || decide ((p : Int) = F j)
/-- The marks after s nodes, from the root backwards. -/
def mks (T : Nat → Int × Int × Int × Nat) (root : Nat) : Nat → Nat → Bool
  | 0, p => decide (p = root)
  | s + 1, p => if mks T root s (root - s) = true then mk1 (mks T root s) (uF (T (root - s)).2.1 (T (root - s)).2.2.1) (uN (T (root - s)).1) p else mks T root s p
/-- Is p in the cone of root? -/
def inC (T : Nat → Int × Int × Int × Nat) (root p : Nat) : Bool := mks T root (root + 1) p
/-- How many of the first k are in the cone, and which. -/
def cnN (T : Nat → Int × Int × Int × Nat) (root : Nat) : Nat → Nat
  | 0 => 0
  | k + 1 => if inC T root k = true then cnN T root k + 1 else cnN T root k
def cnF (T : Nat → Int × Int × Int × Nat) (root : Nat) : Nat → Nat → Int
  | 0, _ => 0
  | k + 1, i => if inC T root k = true ∧ i = cnN T root k then (k : Int) else cnF T root k i
theorem cnN_le (T : Nat → Int × Int × Int × Nat) (root : Nat) : ∀ k, cnN T root k ≤ k
  | 0 => Nat.le_refl _
  | k + 1 => by
    have ih := cnN_le T root k
    show (if inC T root k = true then cnN T root k + 1 else cnN T root k) ≤ k + 1
    split <;> omega
theorem cnF_range (T : Nat → Int × Int × Int × Nat) (root : Nat) : ∀ k i, i < cnN T root k → 0 ≤ cnF T root k i ∧ cnF T root k i < (k : Int)
  | 0, i, h => absurd h (Nat.not_lt_zero i)
  | k + 1, i, h => by
    have ih := cnF_range T root k i
    have h' : i < (if inC T root k = true then cnN T root k + 1 else cnN T root k) := h
    show 0 ≤ (if inC T root k = true ∧ i = cnN T root k then (k : Int) else cnF T root k i) ∧ (if inC T root k = true ∧ i = cnN T root k then (k : Int) else cnF T root k i) < ((k + 1 : Nat) : Int)
    by_cases h1 : inC T root k = true ∧ i = cnN T root k
    · rw [if_pos h1]; omega
    · rw [if_neg h1]
      have h2 : i < cnN T root k := by
        by_cases h3 : inC T root k = true
        · rw [if_pos h3] at h'
          have : i ≠ cnN T root k := fun e => h1 ⟨h3, e⟩
          omega
        · rw [if_neg h3] at h'; exact h'
      have := ih h2
      omega
theorem made_bool (n i j : Nat) (hi : i < n) (hj : j < 1) : (madeCells #[.bool false] n).toList[i * 1 + j]? = some (.bool false) := by
  rw [Array.getElem?_toList]
  unfold madeCells
  rw [Array.getElem?_map, Array.getElem?_range, if_pos (by omega)]
  show some _ = _
  dsimp only
  rw [show (#[.bool false] : Array Value).size = 1 from rfl, show (i * 1 + j) % 1 = 0 from by omega]
  rfl
theorem boolInf : ∃ i : TypeInfo, Tryz.prog.info? 4 = some i ∧ i.zero = some (.bool false) ∧ i.size = 1 ∧ i.bytes = 1 := by
  have h : (Tryz.prog.info? 4).map (fun i => (i.zero, i.size, i.bytes)) = some (some (.bool false), 1, 1) := by kernel_rfl
  obtain ⟨i, hi, he⟩ := Option.map_eq_some_iff.mp h
  simp only [Prod.mk.injEq] at he
  exact ⟨i, hi, he.1, he.2.1, he.2.2⟩
theorem BlkR.only {w : World} {t : TypeId} {b n : Nat} {F : Nat → Nat → Value} (h : BlkR w t b 1 n F) {o : Nat} {v : Value} (hc : w.cell? ⟨b, o, none⟩ = some v) : ∃ i, i < n ∧ v = F i 0 := by
  obtain ⟨c, hb, hs, hf⟩ := h
  have h1 : c[o]? = some v := by simpa [World.cell?, hb] using hc
  have h2 : o < n := by have := (Array.getElem?_eq_some_iff.1 h1).1; omega
  have h3 := hf o h2 0 (by decide)
  rw [Nat.mul_one, Nat.add_zero, h1] at h3
  exact ⟨o, h2, Option.some.inj h3⟩
theorem one_Rs (w : World) (t : TypeId) (v : Value) : Rs (w.alloc (.cells #[v] t)) (.slice (some ⟨w.heap.size, 0, none⟩) 1 1) 1 1 (fun _ _ => v) := by
  refine BlkR.Rs (t := t) ⟨#[v], ?_, rfl, ?_⟩ (by decide)
  · show (w.heap.push _)[w.heap.size]? = _; simp
  · intro i hi j hj
    have : i = 0 := by omega
    have : j = 0 := by omega
    subst i j
    rfl
set_option maxHeartbeats 16000000 in
set_option maxRecDepth 100000 in
theorem cone_in (n cn : Nat) (oa : Option Addr) (T : Nat → Int × Int × Int × Nat) (root : Nat) (hn : n ≤ 1000000) (w : World) (hv : Rs w (.slice oa n cn) 7 n (fun i => nC (T i))) (ho : ordB n T = true) (hr : root < n) :
    Calls Tryz.prog 125 #[.slice oa n cn, .int .i64 (root : Int)] w fun e w' => (∃ v, e = .returned v ∧ w'.ownsRow w.heap.size 3 1 v (cnN T root (root + 1)) (rwl 1 (fun i _ => .int .i64 (cnF T root (root + 1) i)) (cnN T root (root + 1)))) ∧ Below w.heap.size w w' := by
  have HORD : Hid (Calls _ _ _ _ _) := ordered_any n cn oa T hn w hv
  have hoo : ∀ i, i < n → okN (T i) i = true := of_decide_eq_true ho
  have HO : Hid (∀ i, i < n → okN (T i) i = true) := hoo
  clear hoo
  have HOR : Hid (ordB n T = true) := ho
  obtain ⟨ib, hib, hb0, hb1, hb2⟩ := boolInf
  have HIB := (show Hid _ from hib); have HZB := (show Hid _ from And.intro hb0 (And.intro hb1 hb2)); clear hib hb0 hb1 hb2
  obtain ⟨ii, hii, hi0, hi1, hi2⟩ := intInf
  have HII := (show Hid _ from hii); have HZI := (show Hid _ from And.intro hi0 (And.intro hi1 hi2)); clear hii hi0 hi1 hi2
  clear hv ho
  go_enter Tryz.func125, Tryz.ntmps125
  go_wp2_with fail
  refine Calls.mono HORD.out ?_
  rintro e w1 ⟨hh | hh, hb1⟩
  rotate_left
  · obtain ⟨ho, _⟩ := hh
    exact absurd (HOR.out.symm.trans ho) (by decide)
  obtain ⟨_, L, rfl, lL, bL⟩ := hh
  clear HORD HOR
  have hr0 : ¬ (root : Int) < 0 := by omega
  have hr1 : ¬ (n : Int) ≤ (root : Int) := by omega
  have hr2 : decide ((root : Int) < 0) = false := decide_eq_false hr0
  go_wp2_with (first
    | (at_make; refine wpList_make_full _ rfl _ _ 178 rfl w1.heap.size 4 ib (.bool false) 1 Tryz.underlying178 HIB.out HZB.out.1 HZB.out.2.1 .i64 .i64 (root + 1) (root + 1) (root + 1) rfl rfl rfl rfl ?c1 ?c2 (Nat.le_refl _) ?_)
    | go_in)
  case c1 => rw [HZB.out.2.2]; omega
  case c2 => unfold maxLen; omega
  intro w2 hown hgrow
  obtain ⟨G, eG⟩ : ∃ G, G = w1.heap.size := ⟨_, rfl⟩
  have lG : w1.heap.size ≤ G := by omega
  rw [← eG] at hown ⊢
  have bo2 : BlkR w2 4 G 1 (root + 1) (fun _ _ => .bool false) := (own_blkR (F := fun _ _ => .bool false) hown (fun i hi j hj => made_bool (root + 1) i j hi hj)).1
  have hbe : Below w1.heap.size w1 w2 := (Below.refl _ w1).grown hgrow (Nat.le_refl _) (fun j hj => by cases hj)
  have cG := bo2.cell root (by omega) 0 (by decide)
  have fG := bo2.frozen
  rw [Nat.mul_one, Nat.add_zero] at cG
  have bo3 : BlkR (w2.setCell ⟨G, root, none⟩ (.bool true)) 4 G 1 (root + 1) (fun p _ => .bool (mks T root 0 p)) := (bo2.set root 0 root (by omega) (by decide) (by omega) (.bool true)).congr (fun i _ j hj => by
    have hj0 : j = 0 := by omega
    subst hj0
    show Value.bool (decide (i = root)) = _
    by_cases h1 : i = root
    · rw [if_pos ⟨h1, rfl⟩, decide_eq_true h1]
    · rw [if_neg (fun h => h1 h.1), decide_eq_false h1])
  have hb3 : Below w1.heap.size w1 (w2.setCell ⟨G, root, none⟩ (.bool true)) := hbe.setCell lG _
  have HB3 : Hid (BlkR (w2.setCell ⟨G, root, none⟩ (.bool true)) 4 G 1 (root + 1) (fun p _ => .bool (mks T root 0 p))) := bo3
  have HL3 : Hid (Below w1.heap.size w1 (w2.setCell ⟨G, root, none⟩ (.bool true))) := hb3
  clear hown hgrow eG bo2 bo3 hb3 hbe
  go_wp2
  go_loopw [8] (fun iv wr => ∃ q : Int, iv = .int .i64 q ∧ -1 ≤ q ∧ q ≤ (root : Int) ∧ Below w1.heap.size w1 wr ∧ Hid (BlkR wr 4 G 1 (root + 1) (fun p _ => .bool (mks T root ((root : Int) - q).toNat p)))) (fun iv _ => (intOf iv + 1).toNat)
  case atStart => exact ⟨(root : Int), rfl, by omega, by omega, HL3.out, by rw [Int.sub_self]; exact HB3.out⟩
  case round =>
    obtain ⟨q, rfl, hq0, hq1, hbr, HBO⟩ := hrel
    clear HB3 HL3 cG fG
    by_cases hge : 0 ≤ q
    · obtain ⟨i, rfl⟩ : ∃ i : Nat, q = (i : Int) := ⟨q.toNat, by omega⟩
      have hir : i ≤ root := by omega
      obtain ⟨s, es⟩ : ∃ s, s = root - i := ⟨_, rfl⟩
      have bo : BlkR wr 4 G 1 (root + 1) (fun p _ => .bool (mks T root s p)) := by
        have h := HBO.out
        rw [show ((root : Int) - (i : Int)).toNat = s by omega] at h
        exact h
      have HSN : Hid (∀ q : Int, q = (i : Int) - 1 → ((root : Int) - q).toNat = s + 1) := fun q hq => by omega
      have HSI : Hid (root - s = i) := by show root - s = i; omega
      clear HBO es
      have c0 := bo.cell i (by omega) 0 (by decide)
      rw [Nat.mul_one, Nat.add_zero] at c0
      have hi0 : (0 : Int) ≤ (i : Int) := by omega
      have hi1 : (i : Int) < (root : Int) + 1 := by omega
      have hi2 : ¬ (i : Int) < 0 := by omega
      obtain ⟨bm, ebm⟩ : ∃ b, b = mks T root s i := ⟨_, rfl⟩
      rw [← ebm] at c0
      have HBM : Hid (bm = mks T root s i) := ebm
      clear ebm hge
      cases bm
      · have HBN : Hid (BlkR wr 4 G 1 (root + 1) (fun p _ => .bool (mks T root (s + 1) p))) := bo.congr (fun p _ j _ => by
          show Value.bool (if mks T root s (root - s) = true then _ else mks T root s p) = _
          rw [HSI.out, ← HBM.out, if_neg (by decide)])
        have HBR : Hid (Below w1.heap.size w1 wr) := hbr
        clear bo hbr
        go_wp2
        go_roundw
        case measure => simp [intOf]
        case rel =>
          refine ⟨(i : Int) - 1, by go_num, by omega, by omega, HBR.out, ?_⟩
          rw [HSN.out _ rfl]
          exact HBN.out
      · obtain ⟨O, A, B, V, hE⟩ : ∃ O A B V, T i = (O, A, B, V) := ⟨_, _, _, _, rfl⟩
        have hok := HO.out i (by omega)
        unfold okN at hok
        rw [hE, Bool.and_eq_true] at hok
        have hO : 1 ≤ O ∧ O ≤ 8 := of_decide_eq_true hok.1
        have hAh : ∀ j, j < uN O → 0 ≤ uF A B j ∧ uF A B j < (i : Int) := of_decide_eq_true hok.2
        have HE : Hid (T i = (O, A, B, V)) := hE
        have HAH : Hid (∀ j, j < uN O → 0 ≤ uF A B j ∧ uF A B j < (i : Int)) := hAh
        have a0 := (bL.belowAll hbr).cell i (by omega) 0 (by decide)
        rw [Nat.mul_one, Nat.add_zero] at a0
        obtain ⟨ty, pv, eif⟩ := opV_iface O A B V hO
        rw [show opT (T i) = opV O A B V from by rw [hE]; rfl, eif] at a0
        have HU : Hid (∀ w, Calls Tryz.prog 112 #[.iface ty pv] w fun e w' => (∃ v, e = .returned v ∧ Zs w' v (uN O) (uF A B)) ∧ Below w.heap.size w w') := fun w => by rw [← eif]; exact uses_any O A B V hO w
        have hin : (i : Int) < (n : Int) := by omega
        clear hok hAh hE eif hO
        go_wp2_with fail
        refine (HU.out wr).mono ?_
        rintro e w3 ⟨⟨uv, rfl, hz⟩, hb4⟩
        have hbr4 := bStep hbr hb4; have bo4 := bo.belowAll hb4
        obtain ⟨ou, cu, rfl⟩ := Rs.shape hz
        have hU2 : uN O ≤ 2 := by unfold uN; split; decide; split <;> decide
        obtain ⟨U, eU⟩ : ∃ U, U = uN O := ⟨_, rfl⟩
        obtain ⟨F, eF⟩ : ∃ F, F = uF A B := ⟨_, rfl⟩
        have hcs : ∃ ub uo, ub ≠ G ∧ (0 < U → ou = some ⟨ub, uo, none⟩) ∧ ∀ j, j < U → w3.cell? ⟨ub, uo + j, none⟩ = some (.int .i64 (F j)) := by
          rw [eU, eF]
          rcases hz with ⟨_, h0⟩ | ⟨ub, uo, c', hv, _, _, _, hcell⟩
          · exact ⟨G + 1, 0, by omega, fun h => by omega, fun j hj => by omega⟩
          · cases hv
            by_cases h0 : uN O = 0
            · exact ⟨G + 1, 0, by omega, fun h => by omega, fun j hj => by omega⟩
            · refine ⟨ub, uo, ?_, fun _ => rfl, fun j hj => by have h := hcell j hj 0 (by decide); rw [Nat.mul_one, Nat.add_zero] at h; exact h⟩
              intro e
              have h := hcell 0 (by omega) 0 (by decide)
              rw [e] at h
              obtain ⟨_, _, h2⟩ := bo4.only h
              cases h2
        obtain ⟨ub, uo, hug, huo, hcu⟩ := hcs
        have HUO : Hid (0 < U → ou = some ⟨ub, uo, none⟩) := huo
        have HCU : Hid (∀ j, j < U → w3.cell? ⟨ub, uo + j, none⟩ = some (.int .i64 (F j))) := hcu
        have HFR : Hid (∀ j, j < U → 0 ≤ F j ∧ F j < (i : Int)) := by rw [eU, eF]; exact HAH.out
        have HEU : Hid (U = uN O) := eU
        have HEF : Hid (F = uF A B) := eF
        rw [← eU] at hU2 ⊢
        have HL4 : Hid (Below w1.heap.size w1 w3) := hbr4
        have HB4 : Hid (BlkR w3 4 G 1 (root + 1) (fun p _ => .bool (mks T root s p))) := bo4
        have HUG : Hid (ub ≠ G) := hug
        clear hz hb4 hbr bo a0 c0 huo hcu eU eF HAH HU hbr4 bo4 hug
        go_wp2
        go_loopw [53] (fun iv wr => ∃ j : Nat, iv = .int .i64 (j : Int) ∧ j ≤ U ∧ Below w1.heap.size w1 wr ∧ Hid (BlkR wr 4 G 1 (root + 1) (fun p _ => .bool (mk1 (mks T root s) F j p))) ∧ Hid (∀ j, j < U → wr.cell? ⟨ub, uo + j, none⟩ = some (.int .i64 (F j)))) (fun iv _ => U - (intOf iv).toNat)
        case atStart => exact ⟨0, rfl, Nat.zero_le _, HL4.out, HB4, HCU⟩
        case round =>
          obtain ⟨j, rfl, hjU, hbi, HBI, HCI⟩ := hrel
          clear HL4 HB4 HCU
          by_cases hlt : j < U
          · have hji : (j : Int) < (U : Int) := by omega
            have hj0 : (0 : Int) ≤ (j : Int) := by omega
            have hou := HUO.out (by omega)
            subst hou
            obtain ⟨y, ey⟩ : ∃ y : Nat, F j = (y : Int) := ⟨(F j).toNat, by have := HFR.out j hlt; omega⟩
            have hyr : y < root + 1 := by have := HFR.out j hlt; omega
            have a1 := HCI.out j hlt
            rw [ey] at a1
            have hy0 : (0 : Int) ≤ (y : Int) := by omega
            have hy1 : (y : Int) < (root : Int) + 1 := by omega
            have c1 := HBI.out.cell y hyr 0 (by decide)
            have f1 := HBI.out.frozen
            rw [Nat.mul_one, Nat.add_zero] at c1
            have hbN := HBI.out.set y 0 y hyr (by decide) (by omega) (.bool true)
            have HBN : Hid (BlkR (wr.setCell ⟨G, y, none⟩ (.bool true)) 4 G 1 (root + 1) (fun p _ => .bool (mk1 (mks T root s) F (j + 1) p))) := hbN.congr (fun p _ l hl => by
              have hl0 : l = 0 := by omega
              subst hl0
              show Value.bool (mk1 (mks T root s) F j p || decide ((p : Int) = F j)) = _
              rw [ey]
              by_cases h1 : p = y
              · rw [if_pos ⟨h1, rfl⟩, decide_eq_true (by omega), Bool.or_true]
              · rw [if_neg (fun h => h1 h.1), decide_eq_false (by omega), Bool.or_false])
            have HLN : Hid (Below w1.heap.size w1 (wr.setCell ⟨G, y, none⟩ (.bool true))) := hbi.setCell lG _
            have HCN : Hid (∀ j, j < U → (wr.setCell ⟨G, y, none⟩ (.bool true)).cell? ⟨ub, uo + j, none⟩ = some (.int .i64 (F j))) := fun j hj => by
              rw [World.cell?_of_block (w := wr) (Below.heap_setCell wr ⟨G, y, none⟩ (.bool true) ub HUG.out)]
              exact HCI.out j hj
            clear hbN ey hbi HBI HCI HUO
            go_wp2
            go_roundw
            case measure => simp [intOf]; omega
            case rel => exact ⟨j + 1, by go_num, hlt, HLN.out, HBN, HCN⟩
          · have hji : ¬ (j : Int) < (U : Int) := by omega
            have hjU' : j = U := by omega
            have HBN : Hid (BlkR wr 4 G 1 (root + 1) (fun p _ => .bool (mks T root (s + 1) p))) := HBI.out.congr (fun p _ l _ => by
              show Value.bool (if mks T root s (root - s) = true then mk1 (mks T root s) (uF (T (root - s)).2.1 (T (root - s)).2.2.1) (uN (T (root - s)).1) p else _) = _
              rw [HSI.out, ← HBM.out, if_pos rfl, HE.out, hjU', HEU.out, HEF.out])
            have HLN : Hid (Below w1.heap.size w1 wr) := hbi
            clear hjU' hbi HBI HCI
            go_wp2
            go_roundw
            case measure => simp [intOf]
            case rel =>
              refine ⟨(i : Int) - 1, by go_num, by omega, by omega, HLN.out, ?_⟩
              rw [HSN.out _ rfl]
              exact HBN.out
    · have HQ : Hid (BlkR wr 4 G 1 (root + 1) (fun p _ => .bool (inC T root p))) := by
        have h := HBO.out
        rw [show ((root : Int) - q).toNat = root + 1 by omega] at h
        exact h
      have HLR : Hid (Below w.heap.size w wr) := hb1.trans (hbr.mono hb1.size)
      have HON : Hid (wr.ownsRow wr.heap.size 3 1 (.slice none 0 0) (cnN T root 0) (rwl 1 (fun i _ => .int .i64 (cnF T root 0 i)) (cnN T root 0))) := own_nil wr wr.heap.size 3 1
      obtain ⟨w5, ew5⟩ : ∃ x : World, x = wr := ⟨_, rfl⟩
      subst ew5
      have HGW : Hid (G < w5.heap.size) := HQ.out.lt
      have hqn : q < 0 := by omega
      clear HBO hbr hge bL lL hb1 lG
      go_wp2
      go_loopw [63, 11] (fun iv lv wq => ∃ k : Nat, iv = .int .i64 (k : Int) ∧ k ≤ root + 1 ∧ Below w5.heap.size w5 wq ∧ Hid (wq.ownsRow w5.heap.size 3 1 lv (cnN T root k) (rwl 1 (fun i _ => .int .i64 (cnF T root k i)) (cnN T root k)))) (fun iv _ _ => root + 1 - (intOf iv).toNat)
      case atStart => exact ⟨0, rfl, Nat.zero_le _, Below.refl _ _, HON⟩
      case round =>
        obtain ⟨k, rfl, hk, hbq, HOW⟩ := hrel
        obtain ⟨ol, cl, hsh, _⟩ := own_shape HOW.out
        subst hsh
        clear HON
        by_cases hlt : k < root + 1
        · have hki : (k : Int) < (root : Int) + 1 := by omega
          have hk0 : (0 : Int) ≤ (k : Int) := by omega
          have c0 := (HQ.out.below hbq HGW.out).cell k hlt 0 (by decide)
          rw [Nat.mul_one, Nat.add_zero] at c0
          obtain ⟨bm, ebm⟩ : ∃ b, b = inC T root k := ⟨_, rfl⟩
          rw [← ebm] at c0
          have HBM : Hid (bm = inC T root k) := ebm
          clear ebm
          cases bm
          · have HNX : Hid (wr.ownsRow w5.heap.size 3 1 (.slice ol (cnN T root k) cl) (cnN T root (k + 1)) (rwl 1 (fun i _ => .int .i64 (cnF T root (k + 1) i)) (cnN T root (k + 1)))) := by
              have e1 : cnN T root (k + 1) = cnN T root k := if_neg (by rw [← HBM.out]; decide)
              have e2 : ∀ i, cnF T root (k + 1) i = cnF T root k i := fun i => if_neg (fun h => by rw [← HBM.out] at h; exact absurd h.1 (by decide))
              show wr.ownsRow _ _ _ _ _ _
              rw [e1, rwl_congr (G := fun i _ => .int .i64 (cnF T root k i)) (fun i _ j _ => by rw [e2])]
              exact HOW.out
            have HBQ : Hid (Below w5.heap.size w5 wr) := hbq
            clear hbq HOW
            go_wp2
            go_roundw
            case measure => simp [intOf]; omega
            case rel => exact ⟨k + 1, by go_num, hlt, HBQ.out, HNX⟩
          · obtain ⟨N, eN⟩ : ∃ N, N = cnN T root k := ⟨_, rfl⟩
            have hNk : N ≤ 1000000 := by rw [eN]; have := cnN_le T root k; omega
            have HOA : Hid ((wr.alloc (.cells #[.int .i64 (k : Int)] 3)).ownsRow w5.heap.size 3 1 (.slice ol N cl) N (rwl 1 (fun i _ => .int .i64 (cnF T root k i)) N)) := by
              rw [eN]; exact own_below HOW.out (bAlloc (Below.refl _ _) _)
            have HON1 := one_Rs wr 3 (.int .i64 (k : Int))
            have HSZ : Hid (w5.heap.size ≤ (wr.alloc (.cells #[.int .i64 (k : Int)] 3)).heap.size) := by have := hbq.size; show _ ≤ _; simp; omega
            rw [← eN] at HOW ⊢
            have HEN : Hid (N = cnN T root k) := eN
            have HBQ : Hid (Below w5.heap.size w5 (wr.alloc (.cells #[.int .i64 (k : Int)] 3))) := hbq.alloc hbq.size _
            clear eN hbq HOW
            go_wp2_with (first
              | (at_builtin; refine wpList_appR _ rfl _ _ 23 rfl w5.heap.size 3 ii (.int .i64 0) 1 8 Tryz.underlying23 HII.out HZI.out.1 HZI.out.2.1 HZI.out.2.2 rfl (by decide) _ N _ rfl HOA.out 1 _ _ rfl HON1 (fun i _ j _ => rfl) ?c1 ?c2 HSZ.out ?_)
              | go_in)
            case c1 => unfold maxLen; omega
            case c2 => omega
            intro v' w7 hown7 hgrow7 hsep7
            have HNX : Hid (w7.ownsRow w5.heap.size 3 1 v' (cnN T root (k + 1)) (rwl 1 (fun i _ => .int .i64 (cnF T root (k + 1) i)) (cnN T root (k + 1)))) := by
              have e1 : cnN T root (k + 1) = N + 1 := by rw [HEN.out]; exact if_pos HBM.out.symm
              show w7.ownsRow _ _ _ _ _ _
              rw [e1, rwl_congr (G := fun i => if i < N then (fun _ => .int .i64 (cnF T root k i)) else (fun _ => .int .i64 (k : Int))) (fun i hi j _ => by
                show Value.int .i64 (if inC T root k = true ∧ i = cnN T root k then (k : Int) else cnF T root k i) = _
                rw [← HEN.out, ← HBM.out]
                by_cases h1 : i < N
                · rw [if_neg (fun h => by omega), if_pos h1]
                · rw [if_pos ⟨rfl, by omega⟩, if_neg h1])]
              exact hown7
            have HB7 : Hid (Below w5.heap.size w5 w7) := HBQ.out.grown hgrow7 HSZ.out (fun j hj => own_ge HOA.out hj)
            clear hown7 hgrow7 hsep7 HON1 HBQ HOA HSZ
            go_wp2
            go_roundw
            case measure => simp [intOf]; omega
            case rel => exact ⟨k + 1, by go_num, hlt, HB7.out, HNX⟩
        · have hki : ¬ (k : Int) < (root : Int) + 1 := by omega
          have ek : k = root + 1 := by omega
          rw [ek] at HOW
          have HFIN : Hid (Below w.heap.size w wr) := HLR.out.trans (hbq.mono HLR.out.size)
          have HOF : Hid (wr.ownsRow w.heap.size 3 1 (.slice ol (cnN T root k) cl) (cnN T root (root + 1)) (rwl 1 (fun i _ => .int .i64 (cnF T root (root + 1) i)) (cnN T root (root + 1)))) := by rw [ek]; exact own_base HOW.out HLR.out.size
          clear HOW hbq ek
          go_wp2
          go_ret
          exact ⟨⟨_, rfl, HOF.out⟩, HFIN.out⟩
end Go.Proofs.YtgldibfpidmfhaaGreatDoor
