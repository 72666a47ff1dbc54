/- A purse over calls; product.hide. -/
import Derived.Test.YtfbfenljfdnggaaGreatDoorVW8
namespace Go.Proofs.YtfbfenljfdnggaaGreatDoor
open Go.RowKit
/-- Nothing below base is changed, but the block b. -/
def KU (base b : Nat) (w w' : World) : Prop := w'.os = w.os ∧ w'.tape = w.tape ∧ w'.output = w.output ∧ w.heap.size ≤ w'.heap.size ∧ ∀ k, k < base → k ≠ b → w'.heap[k]? = w.heap[k]?
theorem KU.refl (base b : Nat) (w : World) : KU base b w w := ⟨rfl, rfl, rfl, Nat.le_refl _, fun _ _ _ => rfl⟩
theorem KU.kept {base b : Nat} {w x y : World} (h : KU base b w x) (hl : base ≤ w.heap.size) (hk : Kept b x y) : KU base b w y :=
  ⟨hk.os.trans h.1, hk.tape.trans h.2.1, hk.output.trans h.2.2.1, Nat.le_trans h.2.2.2.1 hk.size, fun k hb hne => (hk.block k (by have := h.2.2.2.1; omega) hne).trans (h.2.2.2.2 k hb hne)⟩
theorem KU.below {base b : Nat} {w x y : World} (h : KU base b w x) (hk : Below base x y) : KU base b w y :=
  ⟨hk.os.trans h.1, hk.tape.trans h.2.1, hk.output.trans h.2.2.1, Nat.le_trans h.2.2.2.1 hk.size, fun k hb hne => (hk.block k hb).trans (h.2.2.2.2 k hb hne)⟩
theorem KU.glob {base b : Nat} {w w' : World} (h : KU base b w w') (hg : Glob w) (h2 : 3 ≤ base) (hb : 3 ≤ b) : Glob w' :=
  hg.belowM (m := 3) (Nat.le_refl _) ⟨h.1, h.2.1, h.2.2.1, h.2.2.2.1, fun k hl => h.2.2.2.2 k (by omega) (by omega)⟩
/-- A purse at b with m coins left, f. -/
def PurseS (w : World) (base b m : Nat) (f : Nat → Nat) : Prop := ∃ (oa : Option Addr) (cm : Nat), One1 w 71 b (.slice oa m cm) ∧ Es w (.slice oa m cm) m f ∧ b < base ∧ ∀ g o, oa = some ⟨g, o, none⟩ → g ≠ b ∧ g < base
theorem Es.lowB {w w' : World} {base n cn : Nat} {oa : Option Addr} {f : Nat → Nat} (h : Es w (.slice oa n cn) n f) (hl : ∀ g o, oa = some ⟨g, o, none⟩ → g < base) (hb : Below base w w') : Es w' (.slice oa n cn) n f := by
  rcases h with h | ⟨b, o, c, hv, h1, h2, h3, h4⟩
  · exact Or.inl h
  · cases hv
    have hlb := hl b o rfl
    exact Or.inr ⟨b, o, cn, rfl, h1, h2, Nat.lt_of_lt_of_le h3 hb.size, fun i hi j hj => (hb.cell (p := ⟨b, o + i * 4 + j, none⟩) hlb).trans (h4 i hi j hj)⟩
theorem PurseS.below {w w' : World} {base b m : Nat} {f : Nat → Nat} (h : PurseS w base b m f) (hb : Below base w w') : PurseS w' base b m f := by
  obtain ⟨oa, cm, h1, h2, h3, h4⟩ := h
  exact ⟨oa, cm, h1.below hb h3, h2.lowB (fun g o e => (h4 g o e).2) hb, h3, h4⟩
theorem OwnL.keptB {w w' : World} {base b : Nat} {v : Value} {l : List Nat} (h : OwnL w base v l) (hb : b < base) (hk : Kept b w w') : OwnL w' base v l := by
  refine ⟨h.1, ?_⟩
  rcases h.2 with hn | ⟨g, cap, cur, hL, hbs, hg, rest⟩
  · exact Or.inl hn
  · refine Or.inr ⟨g, cap, cur, hL, hbs, ?_, rest⟩
    rw [hk.block g (Array.getElem?_eq_some_iff.1 hg).1 (by omega)]
    exact hg
/-- Next on a purse. -/
theorem pnext_none (base b : Nat) (f : Nat → Nat) (w : World) (h : PurseS w base b 0 f) :
    Calls Tryz.prog 13 #[.pointer (some ⟨b, 0, none⟩)] w fun e w' => e = .returned (.tuple #[.agg #[.int .u64 0, .int .u64 0, .int .u64 0, .int .u64 0], .int .i64 81]) ∧ Below w.heap.size w w' := by
  obtain ⟨oa, cm, h1, _⟩ := h
  exact next_none b cm oa w h1
theorem pnext_some (base b m : Nat) (f : Nat → Nat) (hm : 0 < m) (w : World) (h : PurseS w base b m f) :
    Calls Tryz.prog 13 #[.pointer (some ⟨b, 0, none⟩)] w fun e w' => (e = .returned (.tuple #[.agg #[.int .u64 ((limb 0 (f 0) : Nat) : Int), .int .u64 ((limb 1 (f 0) : Nat) : Int), .int .u64 ((limb 2 (f 0) : Nat) : Int), .int .u64 ((limb 3 (f 0) : Nat) : Int)], .int .i64 0]) ∧ PurseS w' base b (m - 1) (fun i => f (i + 1))) ∧ Kept b w w' := by
  obtain ⟨oa, cm, h1, h2, h3, h4⟩ := h
  refine (next_some b m cm oa f hm w h1 h2 (fun g o e => (h4 g o e).1)).mono ?_
  rintro e w' ⟨⟨he, oa', k1, k2, k3⟩, hk⟩
  exact ⟨⟨he, oa', cm - 1, k1, k2, h3, fun g o e => ⟨(k3 g o e).1, by obtain ⟨o', e'⟩ := (k3 g o e).2; exact (h4 g o' e').2⟩⟩, hk⟩
/-- The first k coins as elements. -/
def coinL (el f : Nat → Nat) (k : Nat) : List Nat := (List.range k).map (fun i => el (f i))
theorem coinL_succ (el f : Nat → Nat) (k : Nat) : coinL el f (k + 1) = coinL el f k ++ [el (f k)] := by unfold coinL; rw [List.range_succ, List.map_append]; rfl
theorem coinL_len (el f : Nat → Nat) (k : Nat) : (coinL el f k).length = k := by unfold coinL; simp
/-- What hide answers. -/
def HidE (base pb b m : Nat) (l : List Nat) (el f : Nat → Nat) (e : Ending) (w' : World) : Prop :=
  (m < 3 ∧ e = .returned (.tuple #[.slice none 0 0, .int .i64 81])) ∨ (3 ≤ m ∧ ∃ z, e = .returned (.tuple #[z, .int .i64 0]) ∧ OwnL w' base z (l ++ coinL el f 3) ∧ PurseS w' pb b (m - 3) (fun i => f (i + 3)))
set_option maxHeartbeats 4000000 in
set_option maxRecDepth 20000 in
/-- product.hide. -/
theorem hide_any {si : Int} {el : Nat → Nat} {ad mu : Nat → Nat → Nat} (hF : Fld si el ad mu) (base pb b m : Nat) (z : Value) (l : List Nat) (f : Nat → Nat) (hl : l.length ≤ 1000) (hf : ∀ i, i < m → f i < 115792089237316195423570985008687907853269984665640564039457584007913129639936) (w : World) (hg : Glob w) (hpb : pb ≤ base) (hbase : base ≤ w.heap.size) (h2 : 3 ≤ b) (ho : OwnL w base z l) (hp : PurseS w pb b m f) :
    Calls Tryz.prog 101 #[.int .i64 si, z, .pointer (some ⟨b, 0, none⟩)] w fun e w' => HidE base pb b m l el f e w' ∧ KU base b w w' := by
  have hbb : b < base := by obtain ⟨_, _, _, _, h, _⟩ := hp; exact Nat.lt_of_lt_of_le h hpb
  have HPB : Hid (pb ≤ base) := hpb
  have HEL : Hid (∀ v, v < 115792089237316195423570985008687907853269984665640564039457584007913129639936 → ∀ w, Glob w → Calls Tryz.prog 100 #[.int .i64 si, .agg #[.int .u64 ((limb 0 (v) : Nat) : Int), .int .u64 ((limb 1 (v) : Nat) : Int), .int .u64 ((limb 2 (v) : Nat) : Int), .int .u64 ((limb 3 (v) : Nat) : Int)]] w fun e w' => e = .returned (.agg #[.int .u64 ((limb 0 (el v) : Nat) : Int), .int .u64 ((limb 1 (el v) : Nat) : Int), .int .u64 ((limb 2 (el v) : Nat) : Int), .int .u64 ((limb 3 (el v) : Nat) : Int)]) ∧ Below w.heap.size w w') := fun v hv w hg => pel_any hF v hv w hg
  have HNN : Hid (∀ (f : Nat → Nat) w, PurseS w pb b 0 f → _) := fun f w h => pnext_none pb b f w h
  have HNS : Hid (∀ (m : Nat) (f : Nat → Nat), 0 < m → ∀ w, PurseS w pb b m f → _) := fun m f hm w h => pnext_some pb b m f hm w h
  have HG : Hid (Glob w) := hg
  have HFM : Hid (∀ i, i < m → f i < 115792089237316195423570985008687907853269984665640564039457584007913129639936) := hf
  have HB : Hid (3 ≤ base ∧ 3 ≤ b ∧ b < base ∧ base ≤ w.heap.size ∧ l.length ≤ 1000) := ⟨by omega, h2, hbb, hbase, hl⟩
  obtain ⟨i0, hi, hz0, hz1, hz2⟩ := elemInfo
  have HI := (show Hid _ from hi); have HZ := (show Hid _ from And.intro hz0 (And.intro hz1 hz2)); clear hi hz0 hz1 hz2
  have HO0 : Hid (OwnL w base z (l ++ coinL el f 0)) := by show OwnL _ _ _ _; rw [show l ++ coinL el f 0 = l from List.append_nil _]; exact ho
  have HP0 : Hid (PurseS w pb b (m - 0) (fun i => f (i + 0))) := hp
  clear hpb hF hg hf hbb h2 hbase hl ho hp
  go_enter Tryz.func101, Tryz.ntmps101
  go_wp2
  go_loopw [1, 10] (fun zv iv wr => ∃ j : Nat, iv = .int .i64 (j : Int) ∧ j ≤ 3 ∧ j ≤ m ∧ OwnL wr base zv (l ++ coinL el f j) ∧ PurseS wr pb b (m - j) (fun i => f (i + j)) ∧ KU base b w wr) (fun _ iv _ => 3 - (intOf iv).toNat)
  case atStart => exact ⟨0, rfl, Nat.zero_le _, Nat.zero_le _, HO0.out, HP0.out, KU.refl _ _ _⟩
  case round =>
    obtain ⟨j, rfl, hj3, hjm, own, hp, hku⟩ := hrel
    have HGR : Hid (Glob wr) := hku.glob HG.out HB.out.1 HB.out.2.1
    by_cases hlt : j < 3
    · have hji : (j : Int) < 3 := by omega
      by_cases hmj : j = m
      · have hm3 : m < 3 := by omega
        have hp0 : PurseS wr pb b 0 (fun i => f (i + j)) := by rw [hmj, Nat.sub_self] at hp; rw [hmj]; exact hp
        have HBB := HB.out.2.2.2.1
        have hsz := hku.2.2.2.1
        clear own hp
        go_wp2_with fail
        refine (HNN.out _ wr hp0).mono ?_
        rintro e w1 ⟨rfl, hb1⟩
        have hk1 := hku.below ((bAlloc hb1 (.cells #[.int .u64 0, .int .u64 0, .int .u64 0, .int .u64 0] 25)).mono (Nat.le_trans HBB hsz))
        clear hb1 hku hp0
        go_wp2
        refine bodyPost_ret (v := .tuple #[.slice none 0 0, .int .i64 81]) (by simp [results, Tryz.results101, go_sem]) rfl ⟨Or.inl ⟨hm3, rfl⟩, hk1⟩
      · have hjlt : j < m := by omega
        have hm0 : 0 < m - j := by omega
        have hj1m : j + 1 ≤ m := by omega
        have HX : Hid (f (0 + j) < 115792089237316195423570985008687907853269984665640564039457584007913129639936) := HFM.out _ (by omega)
        have HXE : Hid (l ++ coinL el f (j + 1) = (l ++ coinL el f j) ++ [el (f (0 + j))]) := by show _ = _; rw [coinL_succ, List.append_assoc, Nat.zero_add]
        have HS := HNS.out (m - j) (fun i => f (i + j)) hm0 wr hp
        obtain ⟨x, ex⟩ : ∃ x, x = f (0 + j) := ⟨_, rfl⟩
        rw [← ex] at HX HXE
        have HS' : Calls Tryz.prog 13 #[.pointer (some ⟨b, 0, none⟩)] wr fun e w' => (e = .returned (.tuple #[.agg #[.int .u64 ((limb 0 (x) : Nat) : Int), .int .u64 ((limb 1 (x) : Nat) : Int), .int .u64 ((limb 2 (x) : Nat) : Int), .int .u64 ((limb 3 (x) : Nat) : Int)], .int .i64 0]) ∧ PurseS w' pb b (m - j - 1) (fun i => f (i + 1 + j))) ∧ Kept b wr w' := by rw [ex]; exact HS
        have HLL : Hid ((l ++ coinL el f j).length ≤ 1003) := by have := HB.out.2.2.2.2; have := coinL_len el f j; show _ ≤ _; rw [List.length_append]; omega
        have HEX : Hid (∀ w, Glob w → _) := fun w hg => HEL.out x HX.out w hg
        obtain ⟨y, ey⟩ : ∃ y, y = el x := ⟨_, rfl⟩
        rw [← ey] at HXE HEX
        obtain ⟨a, ea⟩ : ∃ a, a = l ++ coinL el f j := ⟨_, rfl⟩
        rw [← ea] at own HXE HLL
        have HBL := HB.out.2.2.2.1
        clear HS ex ey ea hmj hjlt hm0 HX
        go_wp2_with fail
        refine HS'.mono ?_
        rintro e w1 ⟨⟨rfl, hp1⟩, hk1⟩
        have own1 := own.keptB HB.out.2.2.1 hk1
        have hku1 := hku.kept HBL hk1
        clear own hp hk1 HS' HGR
        go_upto_region 8 with fail
        obtain ⟨w2, hw2⟩ : ∃ z : World, z = w1.alloc (.cells #[.int .u64 ((limb 0 (x) : Nat) : Int), .int .u64 ((limb 1 (x) : Nat) : Int), .int .u64 ((limb 2 (x) : Nat) : Int), .int .u64 ((limb 3 (x) : Nat) : Int)] 25) := ⟨_, rfl⟩
        obtain ⟨N8, e8⟩ : ∃ z, z = w1.heap.size := ⟨_, rfl⟩
        have b8 : Blk w2 25 N8 (fun i => limb i x) := by rw [hw2]; exact Blk.newAt _ _ _ (fun i => limb i x) e8
        have hl1 : base ≤ w1.heap.size := Nat.le_trans HBL hku1.2.2.2.1
        have hb2 : Below w1.heap.size w1 w2 := by rw [hw2]; exact bAlloc (Below.refl _ _) _
        have own2 := own1.below hb2
        have hp2 := hp1.below (hb2.mono (Nat.le_trans HPB.out hl1))
        have hku2 := hku1.below (hb2.mono hl1)
        have hl2 : base ≤ w2.heap.size := Nat.le_trans hl1 hb2.size
        rw [← hw2]
        try rw [← e8]
        clear hw2 e8 own1 hp1 hku1 hl1 hb2
        have q8 := b8.cell
        go_wp2_with fail
        refine (HEX.out w2 (hku2.glob HG.out HB.out.1 HB.out.2.1)).mono ?_
        rintro e w3 ⟨rfl, hb3⟩
        have own3 := own2.below hb3
        have hp3 := hp2.below (hb3.mono (Nat.le_trans HPB.out hl2))
        have hku3 := hku2.below (hb3.mono hl2)
        have lBw3 : base ≤ w3.heap.size := Nat.le_trans hl2 hb3.size
        have hal : a.length ≤ 1003 := HLL.out
        clear q8 b8 own2 hp2 hku2 hl2 hb3 HEX
        go_wp2_with (first
          | (at_builtin; refine wpList_append_own _ rfl _ _ 26 rfl base 25 i0 (.agg #[.int .u64 0, .int .u64 0, .int .u64 0, .int .u64 0]) 4 32 Tryz.underlying26 HI.out HZ.out.1 HZ.out.2.1 HZ.out.2.2 rfl (by decide) _ _ _ rfl (own3.alloc _) ⟨w3.heap.size, 0, none⟩ 1 1 [.int .u64 ((limb 0 y : Nat) : Int), .int .u64 ((limb 1 y : Nat) : Int), .int .u64 ((limb 2 y : Nat) : Int), .int .u64 ((limb 3 y : Nat) : Int)] rfl rfl ?c1 ?c2 ?c3 ?c4 ?c5 ?_)
          | go_in)
        try
          case c1 =>
            intro j u hj
            match j, hj with
            | 0, hj => simp at hj; subst hj; simp [Addr.add]
            | 1, hj => simp at hj; subst hj; simp [Addr.add]
            | 2, hj => simp at hj; subst hj; simp [Addr.add]
            | 3, hj => simp at hj; subst hj; simp [Addr.add]
            | j + 4, hj => simp at hj
        case c2 => first | exact ⟨rfl, rfl, rfl, rfl⟩ | (intro u hu; simp at hu; rcases hu with rfl | rfl | rfl | rfl <;> rfl)
        case c3 => unfold maxLen; omega
        case c4 => omega
        case c5 => first | omega | (simp; omega)
        intro v6 w6 own6' hgr6 _
        have own6 := OwnL.push own6'
        have hbg6 : Below base w3 w6 := ((Below.refl _ w3).alloc lBw3 _).grown hgr6 (by simp; omega) (fun j hj => own_block_geE own3 hj)
        have lBw6 : base ≤ w6.heap.size := Nat.le_trans lBw3 hbg6.size
        clear own6' hgr6
        have hku6 := hku3.below hbg6
        have hp6 := hp3.below (hbg6.mono HPB.out)
        have HP6 : Hid (PurseS w6 pb b (m - (j + 1)) (fun i => f (i + (j + 1)))) := by
          have h1 : m - (j + 1) = m - j - 1 := by omega
          have h2 : (fun i => f (i + (j + 1))) = fun i => f (i + 1 + j) := by funext i; congr 1; omega
          show PurseS _ _ _ _ _
          rw [h1, h2]; exact hp6
        have HO6 : Hid (OwnL w6 base v6 (l ++ coinL el f (j + 1))) := by show OwnL _ _ _ _; rw [HXE.out]; exact own6
        clear own3 own6 hp3 hp6 hku3 hbg6 HXE HLL
        go_wp2
        go_roundw
        case measure => simp [intOf]; omega
        case rel => exact ⟨j + 1, by go_num, by omega, by omega, HO6.out, HP6.out, hku6⟩
    · have hji : ¬ (j : Int) < 3 := by omega
      obtain rfl : j = 3 := by omega
      have HO : Hid (OwnL wr base _ (l ++ coinL el f 3)) := own
      have HP : Hid (PurseS wr pb b (m - 3) (fun i => f (i + 3))) := hp
      clear own hp
      go_wp2
      refine bodyPost_ret (v := .tuple #[_, .int .i64 0]) (by simp [results, Tryz.results101, go_sem]) rfl ⟨Or.inr ⟨hjm, _, rfl, HO.out, HP.out⟩, hku⟩
end Go.Proofs.YtfbfenljfdnggaaGreatDoor

/- Two lists of one's own side by side: what an append to one leaves of the other. -/
namespace Go.Proofs.YtfbfenljfdnggaaGreatDoor
open Go.RowKit
theorem run_append_keep2 (w : World) (base : Nat) (t ty e : TypeId) (i : TypeInfo) (z : Value) (size bytes : Nat) (ht : Tryz.prog.underlying t = some (.slice e)) (hi : Tryz.prog.info? e = some i) (hz : i.zero = some z)
    (hsize : i.size = size) (hby : i.bytes = bytes) (hzs : z.cells.size = size) (hsz : 0 < size)
    (v : Value) (n : Nat) (xs : List Value) (hown : w.ownsRow base e size v n xs)
    (a : Addr) (m c : Nat) (news : List Value) (hl : news.length = m * size) (hnews : ∀ j u, news[j]? = some u → w.cell? (a.add j) = some u) (h1 : ∀ u ∈ news, u.oneCell' = true)
    (h63 : n + m ≤ maxLen) (hbytes : (n + m) * bytes ≤ 140737488355328) (hbase : base ≤ w.heap.size) :
    ∃ v' w', (Builtin.append_ #[t, t] ty #[v, .slice (some a) m c]).run Tryz.prog w = .ok v' w' ∧ w'.ownsRow base e size v' (n + m) (xs ++ news) ∧ w.grownBy w' v.ownBlock ∧
      (∀ g, v.ownBlock = some g → (∀ j u, xs[j]? = some u → w'.cell? ⟨g, j, none⟩ = some u) ∧ ∀ g', v'.ownBlock = some g' → g' = g ∨ w.heap.size ≤ g') := by
  obtain ⟨v', w', hr, h2, h3, _⟩ := run_append_own (P := Tryz.prog) w base t ty e i z size bytes ht hi hz hsize hby hzs hsz v n xs hown a m c news hl hnews h1 h63 hbytes hbase
  refine ⟨v', w', hr, h2, h3, ?_⟩
  intro g hg
  subst hsize
  subst hby
  have hadd : ∀ g' j : Nat, (⟨g', 0, none⟩ : Addr).add j = ⟨g', j, none⟩ := fun g' j => by unfold Addr.add; split <;> simp_all
  rcases hown.2 with ⟨rfl, _⟩ | ⟨g', cap, cur, rfl, hbg, hgg, hnc, hcm, hcs, htake⟩
  · simp [Value.ownBlock] at hg
  · simp [Value.ownBlock] at hg
    subst hg
    by_cases hroom : n + m ≤ cap
    · have hfit : n * i.size + news.length ≤ cur.size := by rw [hl, hcs, ← Nat.add_mul]; exact Nat.mul_le_mul_right _ hroom
      have hr' := run_append_room (P := Tryz.prog) w t ty e i ht hi g' n cap cur hgg a m c news hl hnews h1 hroom hfit
      rw [hr] at hr'
      have hv : v' = .slice (some ⟨g', 0, none⟩) (n + m) cap := by injection hr'
      refine ⟨fun j u hu => ?_, fun g2 h2' => ?_⟩
      · have hj : j < xs.length := (List.getElem?_eq_some_iff.1 hu).1
        have h5 := h2.cells (g := g') (by rw [hv]; rfl) j u (by rw [List.getElem?_append_left hj]; exact hu)
        rw [hadd] at h5
        exact h5
      · rw [hv] at h2'
        exact Or.inl (Option.some.inj h2').symm
    · have hsmall : n + m ≤ 9223372036854775807 := by simp only [maxLen] at h63; omega
      have hold : ∀ j u, xs[j]? = some u → w.cell? ((⟨g', 0, none⟩ : Addr).add j) = some u := hown.cells (g := g') rfl
      have hr' := run_append_grow (P := Tryz.prog) w t ty e i z ht hi hz ⟨g', 0, none⟩ n cap xs hown.1 hold a m c news hl hnews (by omega) (by omega) (growslice_fits (by omega) hbytes)
      rw [hr] at hr'
      have hw := (Result.ok.inj hr').2
      have hv := (Result.ok.inj hr').1
      have hlt : g' < w.heap.size := (Array.getElem?_eq_some_iff.1 hgg).1
      have hsame : w'.heap[g']? = w.heap[g']? := by rw [hw]; exact heap_alloc_old w.drew _ hlt
      refine ⟨fun j u hu => ?_, fun g2 h2' => ?_⟩
      · have holds := hold j u hu
        rw [hadd] at holds
        rw [← holds]
        simp only [World.cell?, hsame]
      · rw [hv] at h2'
        exact Or.inr (Nat.le_of_eq (Option.some.inj h2'))
theorem wp_append_keep2 (w : World) {o : Oper} {a : Act} {K : Act → World → Prop} {Q : Exit → Act → World → Prop} (s x : Operand) (t : TypeId)
    (ho : o.op = .call { callee := .builtin .append, args := #[s, x], argTypes := #[t, t] })
    (base : Nat) (e : TypeId) (i : TypeInfo) (z : Value) (size bytes : Nat) (ht : Tryz.prog.underlying t = some (.slice e)) (hi : Tryz.prog.info? e = some i) (hz : i.zero = some z)
    (hsize : i.size = size) (hby : i.bytes = bytes) (hzs : z.cells.size = size) (hsz : 0 < size)
    (v : Value) (n : Nat) (xs : List Value) (hs : a.eval s = v) (hown : w.ownsRow base e size v n xs)
    (ad : Addr) (m c : Nat) (news : List Value) (hx : a.eval x = .slice (some ad) m c) (hl : news.length = m * size) (hnews : ∀ j u, news[j]? = some u → w.cell? (ad.add j) = some u) (h1 : ∀ u ∈ news, u.oneCell' = true)
    (h63 : n + m ≤ maxLen) (hbytes : (n + m) * bytes ≤ 140737488355328) (hbase : base ≤ w.heap.size)
    (h : ∀ v' w', w'.ownsRow base e size v' (n + m) (xs ++ news) → w.grownBy w' v.ownBlock → (∀ g, v.ownBlock = some g → (∀ j u, xs[j]? = some u → w'.cell? ⟨g, j, none⟩ = some u) ∧ ∀ g', v'.ownBlock = some g' → g' = g ∨ w.heap.size ≤ g') → K (a.put o.dst v') w') : o.wp Tryz.prog a w K Q := by
  obtain ⟨v', w', hr, h2, h3, h4⟩ := run_append_keep2 w base t o.type e i z size bytes ht hi hz hsize hby hzs hsz v n xs hown ad m c news hl hnews h1 h63 hbytes hbase
  unfold Oper.wp execOp
  simp only [ho, resolve, invoke, builtin, Sem.run_bind, Sem.run_pure, Result.andThen_ok, List.map_toArray, List.map_cons, List.map_nil, hs, hx, hr]
  exact h v' w' h2 h3 h4
theorem wpList_append_keep2 (w : World) {ops : Array Oper} {rest : List Oper} {o : Oper} {a : Act} {Q : Exit → Act → World → Prop} (hgd : o.guard = none) (s x : Operand) (t : TypeId)
    (ho : o.op = .call { callee := .builtin .append, args := #[s, x], argTypes := #[t, t] })
    (base : Nat) (e : TypeId) (i : TypeInfo) (z : Value) (size bytes : Nat) (ht : Tryz.prog.underlying t = some (.slice e)) (hi : Tryz.prog.info? e = some i) (hz : i.zero = some z)
    (hsize : i.size = size) (hby : i.bytes = bytes) (hzs : z.cells.size = size) (hsz : 0 < size)
    (v : Value) (n : Nat) (xs : List Value) (hs : a.eval s = v) (hown : w.ownsRow base e size v n xs)
    (ad : Addr) (m c : Nat) (news : List Value) (hx : a.eval x = .slice (some ad) m c) (hl : news.length = m * size) (hnews : ∀ j u, news[j]? = some u → w.cell? (ad.add j) = some u) (h1 : ∀ u ∈ news, u.oneCell' = true)
    (h63 : n + m ≤ maxLen) (hbytes : (n + m) * bytes ≤ 140737488355328) (hbase : base ≤ w.heap.size)
    (h : ∀ v' w', w'.ownsRow base e size v' (n + m) (xs ++ news) → w.grownBy w' v.ownBlock → (∀ g, v.ownBlock = some g → (∀ j u, xs[j]? = some u → w'.cell? ⟨g, j, none⟩ = some u) ∧ ∀ g', v'.ownBlock = some g' → g' = g ∨ w.heap.size ≤ g') → wpList Tryz.prog ops Q rest (a.put o.dst v') w') : wpList Tryz.prog ops Q (o :: rest) a w :=
  wpList_plain hgd fun _ hK => wp_append_keep2 w s x t ho base e i z size bytes ht hi hz hsize hby hzs hsz v n xs hs hown ad m c news hx hl hnews h1 h63 hbytes hbase fun v' w' h2 h3 h4 => hK _ _ (h v' w' h2 h3 h4)
theorem OwnL.same {w w' : World} {base : Nat} {v : Value} {l : List Nat} (h : OwnL w base v l) (hs : ∀ k, v.ownBlock = some k → w'.heap[k]? = w.heap[k]?) : OwnL w' base v l := by
  refine ⟨h.1, ?_⟩
  rcases h.2 with hn | ⟨g, cap, cur, hL, hb, hg, rest⟩
  · exact Or.inl hn
  · exact Or.inr ⟨g, cap, cur, hL, hb, by rw [hs g (by rw [hL]; rfl)]; exact hg, rest⟩
end Go.Proofs.YtfbfenljfdnggaaGreatDoor

/- The reference's Coins.Next. -/
namespace Go.Proofs.YtfbfenljfdnggaaGreatDoor
open Go.RowKit
theorem Lay.frozen {w : World} {t : TypeId} {b : Nat} {cs : Array Value} (h : Lay w t b cs) : w.frozen? ⟨b, 0, none⟩ = false ∧ w.frozen? ⟨b, 1, none⟩ = false := by unfold Lay at h; simp [World.frozen?, h]
theorem Lay.put2 {w : World} {t : TypeId} {b : Nat} {x0 x1 : Value} (h : Lay w t b #[x0, x1]) (v0 v1 : Value) : ∃ w', (w.setCell ⟨b, 0, none⟩ v0).setCell ⟨b, 1, none⟩ v1 = w' ∧ Lay w' t b #[v0, v1] ∧ Kept b w w' :=
  ⟨_, rfl, by unfold Lay at h ⊢; simp [World.setCell, Array.getElem?_modify, h], ((Kept.refl _ _).setCell 0 _).setCell 1 _⟩
theorem Lay.put1 {w : World} {t : TypeId} {b : Nat} {x0 x1 : Value} (h : Lay w t b #[x0, x1]) (v1 : Value) : ∃ w', w.setCell ⟨b, 1, none⟩ v1 = w' ∧ Lay w' t b #[x0, v1] ∧ Kept b w w' :=
  ⟨_, rfl, by unfold Lay at h ⊢; simp [World.setCell, Array.getElem?_modify, h], (Kept.refl _ _).setCell 1 _⟩
set_option maxHeartbeats 4000000 in
set_option maxRecDepth 20000 in
theorem rnext_none (oa : Option Addr) (n cn k : Nat) (hk : n ≤ k) (w : World) :
    Calls Tryz.prog 14 #[.agg #[.slice oa n cn, .int .i64 (k : Int)]] w fun e w' => e = .returned (.tuple #[.agg #[.slice oa n cn, .int .i64 (k : Int)], .agg #[.int .u64 0, .int .u64 0, .int .u64 0, .int .u64 0], .int .i64 81]) ∧ Below w.heap.size w w' := by
  have hki : (n : Int) ≤ (k : Int) := by omega
  go_enter Tryz.func14, Tryz.ntmps14
  go_upto_region 1 with fail
  have hs1 : (w.alloc (.cells #[.slice oa n cn, .int .i64 (k : Int)] 37)).heap.size = w.heap.size + 1 := Array.size_push ..
  have hs2 : ((w.alloc (.cells #[.slice oa n cn, .int .i64 (k : Int)] 37)).alloc (.cells #[.slice none 0 0, .int .i64 0] 37)).heap.size = w.heap.size + 1 + 1 := by rw [← hs1]; exact Array.size_push ..
  obtain ⟨N1, e0⟩ : ∃ z, z = w.heap.size := ⟨_, rfl⟩
  obtain ⟨N2, e1⟩ : ∃ z, z = N1 + 1 := ⟨_, rfl⟩
  obtain ⟨N3, e2⟩ : ∃ z, z = N2 + 1 := ⟨_, rfl⟩
  obtain ⟨w1, hw1⟩ : ∃ z : World, z = ((w.alloc (.cells #[.slice oa n cn, .int .i64 (k : Int)] 37)).alloc (.cells #[.slice none 0 0, .int .i64 0] 37)).alloc (.cells #[.int .u64 0, .int .u64 0, .int .u64 0, .int .u64 0] 25) := ⟨_, rfl⟩
  have b1 : Lay w1 37 N1 #[.slice oa n cn, .int .i64 (k : Int)] := by rw [hw1]; exact ((Lay.newAt _ _ _ e0).alloc _).alloc _
  have b2 : Lay w1 37 N2 #[.slice none 0 0, .int .i64 0] := by rw [hw1]; exact (Lay.newAt _ _ _ (by rw [e1, e0, hs1])).alloc _
  have b3 : Blk w1 25 N3 (fun _ => 0) := by rw [hw1]; exact Blk.newAt _ _ _ (fun _ => 0) (by rw [e2, e1, e0, hs2])
  have hb1 : Below w.heap.size w w1 := by rw [hw1]; exact bAlloc (bAlloc (bAlloc (Below.refl _ _) _) _) _
  rw [← hw1]
  try rw [← e0]
  try rw [← e1]
  try rw [← e2]
  have l1 : w.heap.size ≤ N1 := by omega
  have l2 : w.heap.size ≤ N2 := by omega
  have l3 : w.heap.size ≤ N3 := by omega
  have n1_2 : N1 ≠ N2 := by omega
  have n1_3 : N1 ≠ N3 := by omega
  have n2_3 : N2 ≠ N3 := by omega
  clear hw1 e0 e1 e2 hs1 hs2
  have q0 := b1.at (o := 0) rfl; have q1 := b1.at (o := 1) rfl
  go_upto_region 2 with fail
  have f0 := b2.frozen.1; have f1 := b2.frozen.2
  obtain ⟨p0, p1⟩ : (∃ v, w1.cell? ⟨N2, 0, none⟩ = some v) ∧ ∃ v, w1.cell? ⟨N2, 1, none⟩ = some v := ⟨⟨_, b2.at (o := 0) rfl⟩, ⟨_, b2.at (o := 1) rfl⟩⟩
  obtain ⟨p0v, p0⟩ := p0; obtain ⟨p1v, p1⟩ := p1
  obtain ⟨w2, hw2, e2, hk2⟩ := b2.put2 (.slice oa n cn) (.int .i64 (k : Int))
  have e3 := b3.kept n2_3.symm hk2
  have c3 := e3.cell; have g3 := e3.frozen
  obtain ⟨w3, hw3, s3, hk3⟩ := e3.put4 0
  have hw3' : (((w2.setCell ⟨N3, 0, none⟩ (.int .u64 0)).setCell ⟨N3, 1, none⟩ (.int .u64 0)).setCell ⟨N3, 2, none⟩ (.int .u64 0)).setCell ⟨N3, 3, none⟩ (.int .u64 0) = w3 := by
    have := hw3
    rw [limb_zero, limb_zero, limb_zero, limb_zero] at this
    exact this
  have e2' := e2.kept n2_3 hk3
  have s3' : Blk w3 25 N3 (fun _ => 0) := s3.congr (fun i _ => (limb_zero i).symm)
  have hbe := bKept (bKept hb1 l2 hk2) l3 hk3
  have r0 := e2'.at (o := 0) rfl; have r1 := e2'.at (o := 1) rfl; have r3 := s3'.cell
  clear hw3 s3 hk2 hk3
  go_wp2
  refine bodyPost_ret (v := .tuple #[.agg #[.slice oa n cn, .int .i64 (k : Int)], .agg #[.int .u64 0, .int .u64 0, .int .u64 0, .int .u64 0], .int .i64 81]) (by simp [results, Tryz.results14, go_sem, r0, r1, r3]) rfl ⟨rfl, hbe⟩
set_option maxHeartbeats 4000000 in
set_option maxRecDepth 20000 in
theorem rnext_some (oa : Option Addr) (n cn k : Nat) (f : Nat → Nat) (hk : k < n) (hn : n < 9223372036854775807) (w : World) (hv : Es w (.slice oa n cn) n f) :
    Calls Tryz.prog 14 #[.agg #[.slice oa n cn, .int .i64 (k : Int)]] w fun e w' => e = .returned (.tuple #[.agg #[.slice oa n cn, .int .i64 ((k + 1 : Nat) : Int)], .agg #[.int .u64 ((limb 0 (f k) : Nat) : Int), .int .u64 ((limb 1 (f k) : Nat) : Int), .int .u64 ((limb 2 (f k) : Nat) : Int), .int .u64 ((limb 3 (f k) : Nat) : Int)], .int .i64 0]) ∧ Below w.heap.size w w' := by
  have hki : ¬ (n : Int) ≤ (k : Int) := by omega
  have hkl : (k : Int) < (n : Int) := by omega
  obtain ⟨k1, ek1⟩ : ∃ z, z = k + 1 := ⟨_, rfl⟩
  have hw1 : IntKind.i64.wrap ((k : Int) + 1) = (k1 : Int) := by rw [ek1, show (k : Int) + 1 = ((k + 1 : Nat) : Int) from by omega]; exact wrap_i64_nat (k + 1) (by omega)
  rcases hv.open with ⟨_, h0, _⟩ | ⟨ab, ao, rfl, _, _, lab, hc⟩
  · omega
  obtain ⟨x, ex⟩ : ∃ x, x = f k := ⟨_, rfl⟩
  have x0 := hc k hk 0 (by decide); have x1 := hc k hk 1 (by decide); have x2 := hc k hk 2 (by decide); have x3 := hc k hk 3 (by decide)
  rw [Nat.add_zero] at x0
  rw [← ex] at x0 x1 x2 x3
  have HX : Hid (k1 = k + 1 ∧ x = f k) := ⟨ek1, ex⟩
  rw [← ek1, ← ex]
  clear hc ex ek1
  go_enter Tryz.func14, Tryz.ntmps14
  go_upto_region 1 with fail
  have hs1 : (w.alloc (.cells #[.slice (some ⟨ab, ao, none⟩) n cn, .int .i64 (k : Int)] 37)).heap.size = w.heap.size + 1 := Array.size_push ..
  have hs2 : ((w.alloc (.cells #[.slice (some ⟨ab, ao, none⟩) n cn, .int .i64 (k : Int)] 37)).alloc (.cells #[.slice none 0 0, .int .i64 0] 37)).heap.size = w.heap.size + 1 + 1 := by rw [← hs1]; exact Array.size_push ..
  obtain ⟨N1, e0⟩ : ∃ z, z = w.heap.size := ⟨_, rfl⟩
  obtain ⟨N2, e1⟩ : ∃ z, z = N1 + 1 := ⟨_, rfl⟩
  obtain ⟨N3, e2⟩ : ∃ z, z = N2 + 1 := ⟨_, rfl⟩
  obtain ⟨w1, hw1⟩ : ∃ z : World, z = ((w.alloc (.cells #[.slice (some ⟨ab, ao, none⟩) n cn, .int .i64 (k : Int)] 37)).alloc (.cells #[.slice none 0 0, .int .i64 0] 37)).alloc (.cells #[.int .u64 0, .int .u64 0, .int .u64 0, .int .u64 0] 25) := ⟨_, rfl⟩
  have b1 : Lay w1 37 N1 #[.slice (some ⟨ab, ao, none⟩) n cn, .int .i64 (k : Int)] := by rw [hw1]; exact ((Lay.newAt _ _ _ e0).alloc _).alloc _
  have b2 : Lay w1 37 N2 #[.slice none 0 0, .int .i64 0] := by rw [hw1]; exact (Lay.newAt _ _ _ (by rw [e1, e0, hs1])).alloc _
  have b3 : Blk w1 25 N3 (fun _ => 0) := by rw [hw1]; exact Blk.newAt _ _ _ (fun _ => 0) (by rw [e2, e1, e0, hs2])
  have hb1 : Below w.heap.size w w1 := by rw [hw1]; exact bAlloc (bAlloc (bAlloc (Below.refl _ _) _) _) _
  rw [← hw1]
  try rw [← e0]
  try rw [← e1]
  try rw [← e2]
  have l1 : w.heap.size ≤ N1 := by omega
  have l2 : w.heap.size ≤ N2 := by omega
  have l3 : w.heap.size ≤ N3 := by omega
  have n1_2 : N1 ≠ N2 := by omega
  have n1_3 : N1 ≠ N3 := by omega
  have n2_3 : N2 ≠ N3 := by omega
  clear hw1 e0 e1 e2 hs1 hs2
  have y0 := (hb1.cell (p := ⟨ab, ao + k * 4, none⟩) lab).trans x0; have y1 := (hb1.cell (p := ⟨ab, ao + k * 4 + 1, none⟩) lab).trans x1; have y2 := (hb1.cell (p := ⟨ab, ao + k * 4 + 2, none⟩) lab).trans x2; have y3 := (hb1.cell (p := ⟨ab, ao + k * 4 + 3, none⟩) lab).trans x3
  have q0 := b1.at (o := 0) rfl; have q1 := b1.at (o := 1) rfl
  clear x0 x1 x2 x3
  go_upto_region 4 with fail
  obtain ⟨w2, hwn⟩ : ∃ z : World, z = w1.alloc (.cells #[.int .u64 ((limb 0 (x) : Nat) : Int), .int .u64 ((limb 1 (x) : Nat) : Int), .int .u64 ((limb 2 (x) : Nat) : Int), .int .u64 ((limb 3 (x) : Nat) : Int)] 25) := ⟨_, rfl⟩
  obtain ⟨N5, hn5⟩ : ∃ z, z = w1.heap.size := ⟨_, rfl⟩
  have h35 : N3 < N5 := by rw [hn5]; exact b3.lt
  have c5 : Blk w2 25 N5 (fun i => limb i x) := by rw [hwn]; exact Blk.newAt _ _ _ (fun i => limb i x) hn5
  have hbn : Below w1.heap.size w1 w2 := by rw [hwn]; exact bAlloc (Below.refl _ _) _
  have c1 := b1.belowAll hbn
  have c2 := b2.belowAll hbn
  have c3 := b3.belowAll hbn
  have hb2 := bStep hb1 hbn
  rw [← hwn]
  try rw [← hn5]
  clear hwn hn5 hbn hb1 b1 b2 b3
  clear q0 q1 y0 y1 y2 y3
  have q0 := c1.at (o := 0) rfl; have q1 := c1.at (o := 1) rfl; have q2 := c1.frozen.2
  obtain ⟨w3, hw3, d1, hk3⟩ := c1.put1 (.int .i64 (k1 : Int))
  have w1e : Hid (N3 < N5) := h35
  have n1_5 : N1 ≠ N5 := by have := c5.lt; have := c1.lt; intro h; unfold Lay at c1; unfold Blk at c5; rw [h, c5] at c1; simp at c1
  have d2 := c2.kept n1_2.symm hk3; have d3 := c3.kept n1_3.symm hk3; have d5 := c5.kept n1_5.symm hk3
  have hb3 := bKept hb2 l1 hk3
  go_upto_region 5 with fail
  clear hw3 q0 q1 q2 c1 c2 c3 c5 hk3
  refine wp_region_Z (fun w' => Lay w' 37 N1 #[.slice (some ⟨ab, ao, none⟩) n cn, .int .i64 (k1 : Int)] ∧ Blk w' 25 N5 (fun i => limb i x)) 99 (by kernel_rfl) ?_
  obtain ⟨wD, hD⟩ : ∃ z : World, z = w3.drew := ⟨_, rfl⟩
  rw [← hD]
  have hbD : Below w3.heap.size w3 wD := by rw [hD]; exact (Below.refl _ _).drew
  clear hD
  have D1 := d1.belowAll hbD; have D2 := d2.belowAll hbD; have D3 := d3.belowAll hbD; have D5 := d5.belowAll hbD
  have hbE := bStep hb3 hbD
  clear d1 d2 d3 d5 hb3 hbD
  refine wpZ_take (i := 0) (v := .agg #[.slice (some ⟨ab, ao, none⟩) n cn, .int .i64 (k1 : Int)]) 24 rfl rfl (by kernel_rfl) (by kernel_rfl) (by kernel_rfl) (Or.inr (by decide)) (fun _ _ _ h => h) (Or.inl ⟨by rfl, fun w hSw => by (have q0 := hSw.1.at (o := 0) rfl; have q1 := hSw.1.at (o := 1) rfl; clear hSw; go_simp)⟩) ⟨D1, D5⟩ ?_
  simp only [Act.put, List.setIfInBounds_toArray]
  dsimp only [List.set_cons_zero, List.set_cons_succ]
  refine wpZ_take (i := 1) (v := .agg #[.int .u64 ((limb 0 (x) : Nat) : Int), .int .u64 ((limb 1 (x) : Nat) : Int), .int .u64 ((limb 2 (x) : Nat) : Int), .int .u64 ((limb 3 (x) : Nat) : Int)]) 25 rfl rfl (by kernel_rfl) (by kernel_rfl) (by kernel_rfl) (Or.inr (by decide)) (fun _ _ _ h => h) (Or.inl ⟨by rfl, fun w hSw => by (have qq := hSw.2.cell; clear hSw; go_simp)⟩) ⟨D1, D5⟩ ?_
  simp only [Act.put, List.setIfInBounds_toArray]
  dsimp only [List.set_cons_zero, List.set_cons_succ]
  have f0 := D2.frozen.1; have f1 := D2.frozen.2
  have p0 := D2.at (o := 0) rfl; have p1 := D2.at (o := 1) rfl
  obtain ⟨w4, hw4, e2, hk4⟩ := D2.put2 (.slice (some ⟨ab, ao, none⟩) n cn) (.int .i64 (k1 : Int))
  have e1 := D1.kept n1_2 hk4; have e3 := D3.kept n2_3.symm hk4
  have n2_5 : N2 ≠ N5 := by intro h; have a := D2; have b := D5; unfold Lay at a; unfold Blk at b; rw [h, b] at a; simp at a
  have n3_5 : N3 ≠ N5 := by intro h; have a := w1e.out; omega
  have e5 := D5.kept n2_5.symm hk4
  have hb4 := bKept hbE l2 hk4
  refine wpZ_one (i := 2) (by kernel_rfl) rfl (fun K hK => ?_)
  go_simp
  refine hK.out _ _ (fun _ => ⟨e1, e5⟩) ?_
  clear hK K f0 f1 p0 p1 hw4 hk4 D1 D2 D3 D5 hbE
  have c3 := e3.cell; have g3 := e3.frozen
  obtain ⟨w5, hw5, s3, hk5⟩ := e3.put4 x
  have s2 := e2.kept n2_3 hk5; have s1 := e1.kept n1_3 hk5; have s5 := e5.kept n3_5.symm hk5
  have hbe := bKept hb4 l3 hk5
  refine wpZ_one (i := 3) (by kernel_rfl) rfl (fun K hK => ?_)
  go_simp
  refine hK.out _ _ (fun _ => ⟨s1, s5⟩) ?_
  clear hK K c3 g3 hw5 hk5
  refine wpZ_take (i := 4) (v := .int .i64 0) 4 rfl rfl (by kernel_rfl) (by kernel_rfl) (by kernel_rfl) (Or.inr (by decide)) (fun _ _ _ h => h) (Or.inl ⟨by rfl, fun w hSw => by go_simp⟩) ⟨s1, s5⟩ ?_
  simp only [Act.put, List.setIfInBounds_toArray]
  dsimp only [List.set_cons_zero, List.set_cons_succ]
  refine wpZ_done (by kernel_rfl) ?_ _
  have r0 := s2.at (o := 0) rfl; have r1 := s2.at (o := 1) rfl; have r3 := s3.cell
  go_wp2
  refine bodyPost_ret (v := .tuple #[.agg #[.slice (some ⟨ab, ao, none⟩) n cn, .int .i64 (k1 : Int)], .agg #[.int .u64 ((limb 0 (x) : Nat) : Int), .int .u64 ((limb 1 (x) : Nat) : Int), .int .u64 ((limb 2 (x) : Nat) : Int), .int .u64 ((limb 3 (x) : Nat) : Int)], .int .i64 0]) (by simp [results, Tryz.results14, go_sem, r0, r1, r3]) rfl ⟨rfl, hbe⟩
end Go.Proofs.YtfbfenljfdnggaaGreatDoor

