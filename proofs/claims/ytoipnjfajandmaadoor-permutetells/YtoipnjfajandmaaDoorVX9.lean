/- A purse over calls; product.hide. -/
import Derived.Test.YtoipnjfajandmaaDoorVX8
namespace Go.Proofs.YtoipnjfajandmaaDoor
open Go.RowKit
/-- Nothing below base is changed, but the block b. -/
def KU (base b : Nat) (w w' : World) : Prop := w'.os = w.os ∧ w'.tape = w.tape ∧ w'.output = w.output ∧ w.heap.size ≤ w'.heap.size ∧ ∀ k, k < base → k ≠ b → w'.heap[k]? = w.heap[k]?
theorem KU.refl (base b : Nat) (w : World) : KU base b w w := ⟨rfl, rfl, rfl, Nat.le_refl _, fun _ _ _ => rfl⟩
theorem KU.kept {base b : Nat} {w x y : World} (h : KU base b w x) (hl : base ≤ w.heap.size) (hk : Kept b x y) : KU base b w y :=
  ⟨hk.os.trans h.1, hk.tape.trans h.2.1, hk.output.trans h.2.2.1, Nat.le_trans h.2.2.2.1 hk.size, fun k hb hne => (hk.block k (by have := h.2.2.2.1; omega) hne).trans (h.2.2.2.2 k hb hne)⟩
theorem KU.below {base b : Nat} {w x y : World} (h : KU base b w x) (hk : Below base x y) : KU base b w y :=
  ⟨hk.os.trans h.1, hk.tape.trans h.2.1, hk.output.trans h.2.2.1, Nat.le_trans h.2.2.2.1 hk.size, fun k hb hne => (hk.block k hb).trans (h.2.2.2.2 k hb hne)⟩
theorem KU.glob {base b : Nat} {w w' : World} (h : KU base b w w') (hg : Glob w) (h2 : 3 ≤ base) (hb : 3 ≤ b) : Glob w' :=
  hg.belowM (m := 3) (Nat.le_refl _) ⟨h.1, h.2.1, h.2.2.1, h.2.2.2.1, fun k hl => h.2.2.2.2 k (by omega) (by omega)⟩
/-- A purse at b with m coins left, f. -/
def PurseS (w : World) (base b m : Nat) (f : Nat → Nat) : Prop := ∃ (oa : Option Addr) (cm : Nat), One1 w 72 b (.slice oa m cm) ∧ Es w (.slice oa m cm) m f ∧ b < base ∧ ∀ g o, oa = some ⟨g, o, none⟩ → g ≠ b ∧ g < base
theorem Es.lowB {w w' : World} {base n cn : Nat} {oa : Option Addr} {f : Nat → Nat} (h : Es w (.slice oa n cn) n f) (hl : ∀ g o, oa = some ⟨g, o, none⟩ → g < base) (hb : Below base w w') : Es w' (.slice oa n cn) n f := by
  rcases h with h | ⟨b, o, c, hv, h1, h2, h3, h4⟩
  · exact Or.inl h
  · cases hv
    have hlb := hl b o rfl
    exact Or.inr ⟨b, o, cn, rfl, h1, h2, Nat.lt_of_lt_of_le h3 hb.size, fun i hi j hj => (hb.cell (p := ⟨b, o + i * 4 + j, none⟩) hlb).trans (h4 i hi j hj)⟩
theorem PurseS.below {w w' : World} {base b m : Nat} {f : Nat → Nat} (h : PurseS w base b m f) (hb : Below base w w') : PurseS w' base b m f := by
  obtain ⟨oa, cm, h1, h2, h3, h4⟩ := h
  exact ⟨oa, cm, h1.below hb h3, h2.lowB (fun g o e => (h4 g o e).2) hb, h3, h4⟩
theorem OwnL.keptB {w w' : World} {base b : Nat} {v : Value} {l : List Nat} (h : OwnL w base v l) (hb : b < base) (hk : Kept b w w') : OwnL w' base v l := by
  refine ⟨h.1, ?_⟩
  rcases h.2 with hn | ⟨g, cap, cur, hL, hbs, hg, rest⟩
  · exact Or.inl hn
  · refine Or.inr ⟨g, cap, cur, hL, hbs, ?_, rest⟩
    rw [hk.block g (Array.getElem?_eq_some_iff.1 hg).1 (by omega)]
    exact hg
/-- Next on a purse. -/
theorem pnext_none (base b : Nat) (f : Nat → Nat) (w : World) (h : PurseS w base b 0 f) :
    Calls Tryd.prog 98 #[.pointer (some ⟨b, 0, none⟩)] w fun e w' => e = .returned (.tuple #[.agg #[.int .u64 0, .int .u64 0, .int .u64 0, .int .u64 0], .int .i64 81]) ∧ Below w.heap.size w w' := by
  obtain ⟨oa, cm, h1, _⟩ := h
  exact next_none b cm oa w h1
theorem pnext_some (base b m : Nat) (f : Nat → Nat) (hm : 0 < m) (w : World) (h : PurseS w base b m f) :
    Calls Tryd.prog 98 #[.pointer (some ⟨b, 0, none⟩)] w fun e w' => (e = .returned (.tuple #[.agg #[.int .u64 ((limb 0 (f 0) : Nat) : Int), .int .u64 ((limb 1 (f 0) : Nat) : Int), .int .u64 ((limb 2 (f 0) : Nat) : Int), .int .u64 ((limb 3 (f 0) : Nat) : Int)], .int .i64 0]) ∧ PurseS w' base b (m - 1) (fun i => f (i + 1))) ∧ Kept b w w' := by
  obtain ⟨oa, cm, h1, h2, h3, h4⟩ := h
  refine (next_some b m cm oa f hm w h1 h2 (fun g o e => (h4 g o e).1)).mono ?_
  rintro e w' ⟨⟨he, oa', k1, k2, k3⟩, hk⟩
  exact ⟨⟨he, oa', cm - 1, k1, k2, h3, fun g o e => ⟨(k3 g o e).1, by obtain ⟨o', e'⟩ := (k3 g o e).2; exact (h4 g o' e').2⟩⟩, hk⟩
/-- The first k coins as elements. -/
def coinL (el f : Nat → Nat) (k : Nat) : List Nat := (List.range k).map (fun i => el (f i))
theorem coinL_succ (el f : Nat → Nat) (k : Nat) : coinL el f (k + 1) = coinL el f k ++ [el (f k)] := by unfold coinL; rw [List.range_succ, List.map_append]; rfl
theorem coinL_len (el f : Nat → Nat) (k : Nat) : (coinL el f k).length = k := by unfold coinL; simp
/-- What hide answers. -/
def HidE (base pb b m : Nat) (l : List Nat) (el f : Nat → Nat) (e : Ending) (w' : World) : Prop :=
  (m < 3 ∧ e = .returned (.tuple #[.slice none 0 0, .int .i64 81])) ∨ (3 ≤ m ∧ ∃ z, e = .returned (.tuple #[z, .int .i64 0]) ∧ OwnL w' base z (l ++ coinL el f 3) ∧ PurseS w' pb b (m - 3) (fun i => f (i + 3)))
set_option maxHeartbeats 4000000 in
set_option maxRecDepth 20000 in
/-- product.hide. -/
theorem hide_any {si : Int} {el : Nat → Nat} {ad mu : Nat → Nat → Nat} (hF : Fld si el ad mu) (base pb b m : Nat) (z : Value) (l : List Nat) (f : Nat → Nat) (hl : l.length ≤ 1000) (hf : ∀ i, i < m → f i < 115792089237316195423570985008687907853269984665640564039457584007913129639936) (w : World) (hg : Glob w) (hpb : pb ≤ base) (hbase : base ≤ w.heap.size) (h2 : 3 ≤ b) (ho : OwnL w base z l) (hp : PurseS w pb b m f) :
    Calls Tryd.prog 85 #[.int .i64 si, z, .pointer (some ⟨b, 0, none⟩)] w fun e w' => HidE base pb b m l el f e w' ∧ KU base b w w' := by
  have hbb : b < base := by obtain ⟨_, _, _, _, h, _⟩ := hp; exact Nat.lt_of_lt_of_le h hpb
  have HPB : Hid (pb ≤ base) := hpb
  have HEL : Hid (∀ v, v < 115792089237316195423570985008687907853269984665640564039457584007913129639936 → ∀ w, Glob w → Calls Tryd.prog 84 #[.int .i64 si, .agg #[.int .u64 ((limb 0 (v) : Nat) : Int), .int .u64 ((limb 1 (v) : Nat) : Int), .int .u64 ((limb 2 (v) : Nat) : Int), .int .u64 ((limb 3 (v) : Nat) : Int)]] w fun e w' => e = .returned (.agg #[.int .u64 ((limb 0 (el v) : Nat) : Int), .int .u64 ((limb 1 (el v) : Nat) : Int), .int .u64 ((limb 2 (el v) : Nat) : Int), .int .u64 ((limb 3 (el v) : Nat) : Int)]) ∧ Below w.heap.size w w') := fun v hv w hg => pel_any hF v hv w hg
  have HNN : Hid (∀ (f : Nat → Nat) w, PurseS w pb b 0 f → _) := fun f w h => pnext_none pb b f w h
  have HNS : Hid (∀ (m : Nat) (f : Nat → Nat), 0 < m → ∀ w, PurseS w pb b m f → _) := fun m f hm w h => pnext_some pb b m f hm w h
  have HG : Hid (Glob w) := hg
  have HFM : Hid (∀ i, i < m → f i < 115792089237316195423570985008687907853269984665640564039457584007913129639936) := hf
  have HB : Hid (3 ≤ base ∧ 3 ≤ b ∧ b < base ∧ base ≤ w.heap.size ∧ l.length ≤ 1000) := ⟨by omega, h2, hbb, hbase, hl⟩
  obtain ⟨i0, hi, hz0, hz1, hz2⟩ := elemInfo
  have HI := (show Hid _ from hi); have HZ := (show Hid _ from And.intro hz0 (And.intro hz1 hz2)); clear hi hz0 hz1 hz2
  have HO0 : Hid (OwnL w base z (l ++ coinL el f 0)) := by show OwnL _ _ _ _; rw [show l ++ coinL el f 0 = l from List.append_nil _]; exact ho
  have HP0 : Hid (PurseS w pb b (m - 0) (fun i => f (i + 0))) := hp
  clear hpb hF hg hf hbb h2 hbase hl ho hp
  go_enter Tryd.func85, Tryd.ntmps85
  go_wp2
  go_loopw [1, 10] (fun zv iv wr => ∃ j : Nat, iv = .int .i64 (j : Int) ∧ j ≤ 3 ∧ j ≤ m ∧ OwnL wr base zv (l ++ coinL el f j) ∧ PurseS wr pb b (m - j) (fun i => f (i + j)) ∧ KU base b w wr) (fun _ iv _ => 3 - (intOf iv).toNat)
  case atStart => exact ⟨0, rfl, Nat.zero_le _, Nat.zero_le _, HO0.out, HP0.out, KU.refl _ _ _⟩
  case round =>
    obtain ⟨j, rfl, hj3, hjm, own, hp, hku⟩ := hrel
    have HGR : Hid (Glob wr) := hku.glob HG.out HB.out.1 HB.out.2.1
    by_cases hlt : j < 3
    · have hji : (j : Int) < 3 := by omega
      by_cases hmj : j = m
      · have hm3 : m < 3 := by omega
        have hp0 : PurseS wr pb b 0 (fun i => f (i + j)) := by rw [hmj, Nat.sub_self] at hp; rw [hmj]; exact hp
        have HBB := HB.out.2.2.2.1
        have hsz := hku.2.2.2.1
        clear own hp
        go_wp2_with fail
        refine (HNN.out _ wr hp0).mono ?_
        rintro e w1 ⟨rfl, hb1⟩
        have hk1 := hku.below ((bAlloc hb1 (.cells #[.int .u64 0, .int .u64 0, .int .u64 0, .int .u64 0] 24)).mono (Nat.le_trans HBB hsz))
        clear hb1 hku hp0
        go_wp2
        refine bodyPost_ret (v := .tuple #[.slice none 0 0, .int .i64 81]) (by simp [results, Tryd.results85, go_sem]) rfl ⟨Or.inl ⟨hm3, rfl⟩, hk1⟩
      · have hjlt : j < m := by omega
        have hm0 : 0 < m - j := by omega
        have hj1m : j + 1 ≤ m := by omega
        have HX : Hid (f (0 + j) < 115792089237316195423570985008687907853269984665640564039457584007913129639936) := HFM.out _ (by omega)
        have HXE : Hid (l ++ coinL el f (j + 1) = (l ++ coinL el f j) ++ [el (f (0 + j))]) := by show _ = _; rw [coinL_succ, List.append_assoc, Nat.zero_add]
        have HS := HNS.out (m - j) (fun i => f (i + j)) hm0 wr hp
        obtain ⟨x, ex⟩ : ∃ x, x = f (0 + j) := ⟨_, rfl⟩
        rw [← ex] at HX HXE
        have HS' : Calls Tryd.prog 98 #[.pointer (some ⟨b, 0, none⟩)] wr fun e w' => (e = .returned (.tuple #[.agg #[.int .u64 ((limb 0 (x) : Nat) : Int), .int .u64 ((limb 1 (x) : Nat) : Int), .int .u64 ((limb 2 (x) : Nat) : Int), .int .u64 ((limb 3 (x) : Nat) : Int)], .int .i64 0]) ∧ PurseS w' pb b (m - j - 1) (fun i => f (i + 1 + j))) ∧ Kept b wr w' := by rw [ex]; exact HS
        have HLL : Hid ((l ++ coinL el f j).length ≤ 1003) := by have := HB.out.2.2.2.2; have := coinL_len el f j; show _ ≤ _; rw [List.length_append]; omega
        have HEX : Hid (∀ w, Glob w → _) := fun w hg => HEL.out x HX.out w hg
        obtain ⟨y, ey⟩ : ∃ y, y = el x := ⟨_, rfl⟩
        rw [← ey] at HXE HEX
        obtain ⟨a, ea⟩ : ∃ a, a = l ++ coinL el f j := ⟨_, rfl⟩
        rw [← ea] at own HXE HLL
        have HBL := HB.out.2.2.2.1
        clear HS ex ey ea hmj hjlt hm0 HX
        go_wp2_with fail
        refine HS'.mono ?_
        rintro e w1 ⟨⟨rfl, hp1⟩, hk1⟩
        have own1 := own.keptB HB.out.2.2.1 hk1
        have hku1 := hku.kept HBL hk1
        clear own hp hk1 HS' HGR
        go_upto_region 8 with fail
        obtain ⟨w2, hw2⟩ : ∃ z : World, z = w1.alloc (.cells #[.int .u64 ((limb 0 (x) : Nat) : Int), .int .u64 ((limb 1 (x) : Nat) : Int), .int .u64 ((limb 2 (x) : Nat) : Int), .int .u64 ((limb 3 (x) : Nat) : Int)] 24) := ⟨_, rfl⟩
        obtain ⟨N8, e8⟩ : ∃ z, z = w1.heap.size := ⟨_, rfl⟩
        have b8 : Blk w2 24 N8 (fun i => limb i x) := by rw [hw2]; exact Blk.newAt _ _ _ (fun i => limb i x) e8
        have hl1 : base ≤ w1.heap.size := Nat.le_trans HBL hku1.2.2.2.1
        have hb2 : Below w1.heap.size w1 w2 := by rw [hw2]; exact bAlloc (Below.refl _ _) _
        have own2 := own1.below hb2
        have hp2 := hp1.below (hb2.mono (Nat.le_trans HPB.out hl1))
        have hku2 := hku1.below (hb2.mono hl1)
        have hl2 : base ≤ w2.heap.size := Nat.le_trans hl1 hb2.size
        rw [← hw2]
        try rw [← e8]
        clear hw2 e8 own1 hp1 hku1 hl1 hb2
        have q8 := b8.cell
        go_wp2_with fail
        refine (HEX.out w2 (hku2.glob HG.out HB.out.1 HB.out.2.1)).mono ?_
        rintro e w3 ⟨rfl, hb3⟩
        have own3 := own2.below hb3
        have hp3 := hp2.below (hb3.mono (Nat.le_trans HPB.out hl2))
        have hku3 := hku2.below (hb3.mono hl2)
        have lBw3 : base ≤ w3.heap.size := Nat.le_trans hl2 hb3.size
        have hal : a.length ≤ 1003 := HLL.out
        clear q8 b8 own2 hp2 hku2 hl2 hb3 HEX
        go_wp2_with (first
          | (at_builtin; refine wpList_append_own _ rfl _ _ 32 rfl base 24 i0 (.agg #[.int .u64 0, .int .u64 0, .int .u64 0, .int .u64 0]) 4 32 Tryd.underlying32 HI.out HZ.out.1 HZ.out.2.1 HZ.out.2.2 rfl (by decide) _ _ _ rfl (own3.alloc _) ⟨w3.heap.size, 0, none⟩ 1 1 [.int .u64 ((limb 0 y : Nat) : Int), .int .u64 ((limb 1 y : Nat) : Int), .int .u64 ((limb 2 y : Nat) : Int), .int .u64 ((limb 3 y : Nat) : Int)] rfl rfl ?c1 ?c2 ?c3 ?c4 ?c5 ?_)
          | go_in)
        try
          case c1 =>
            intro j u hj
            match j, hj with
            | 0, hj => simp at hj; subst hj; simp [Addr.add]
            | 1, hj => simp at hj; subst hj; simp [Addr.add]
            | 2, hj => simp at hj; subst hj; simp [Addr.add]
            | 3, hj => simp at hj; subst hj; simp [Addr.add]
            | j + 4, hj => simp at hj
        case c2 => first | exact ⟨rfl, rfl, rfl, rfl⟩ | (intro u hu; simp at hu; rcases hu with rfl | rfl | rfl | rfl <;> rfl)
        case c3 => unfold maxLen; omega
        case c4 => omega
        case c5 => first | omega | (simp; omega)
        intro v6 w6 own6' hgr6 _
        have own6 := OwnL.push own6'
        have hbg6 : Below base w3 w6 := ((Below.refl _ w3).alloc lBw3 _).grown hgr6 (by simp; omega) (fun j hj => own_block_geE own3 hj)
        have lBw6 : base ≤ w6.heap.size := Nat.le_trans lBw3 hbg6.size
        clear own6' hgr6
        have hku6 := hku3.below hbg6
        have hp6 := hp3.below (hbg6.mono HPB.out)
        have HP6 : Hid (PurseS w6 pb b (m - (j + 1)) (fun i => f (i + (j + 1)))) := by
          have h1 : m - (j + 1) = m - j - 1 := by omega
          have h2 : (fun i => f (i + (j + 1))) = fun i => f (i + 1 + j) := by funext i; congr 1; omega
          show PurseS _ _ _ _ _
          rw [h1, h2]; exact hp6
        have HO6 : Hid (OwnL w6 base v6 (l ++ coinL el f (j + 1))) := by show OwnL _ _ _ _; rw [HXE.out]; exact own6
        clear own3 own6 hp3 hp6 hku3 hbg6 HXE HLL
        go_wp2
        go_roundw
        case measure => simp [intOf]; omega
        case rel => exact ⟨j + 1, by go_num, by omega, by omega, HO6.out, HP6.out, hku6⟩
    · have hji : ¬ (j : Int) < 3 := by omega
      obtain rfl : j = 3 := by omega
      have HO : Hid (OwnL wr base _ (l ++ coinL el f 3)) := own
      have HP : Hid (PurseS wr pb b (m - 3) (fun i => f (i + 3))) := hp
      clear own hp
      go_wp2
      refine bodyPost_ret (v := .tuple #[_, .int .i64 0]) (by simp [results, Tryd.results85, go_sem]) rfl ⟨Or.inr ⟨hjm, _, rfl, HO.out, HP.out⟩, hku⟩
end Go.Proofs.YtoipnjfajandmaaDoor

/- Two lists of one's own side by side: what an append to one leaves of the other. -/
namespace Go.Proofs.YtoipnjfajandmaaDoor
open Go.RowKit
theorem run_append_keep2 (w : World) (base : Nat) (t ty e : TypeId) (i : TypeInfo) (z : Value) (size bytes : Nat) (ht : Tryd.prog.underlying t = some (.slice e)) (hi : Tryd.prog.info? e = some i) (hz : i.zero = some z)
    (hsize : i.size = size) (hby : i.bytes = bytes) (hzs : z.cells.size = size) (hsz : 0 < size)
    (v : Value) (n : Nat) (xs : List Value) (hown : w.ownsRow base e size v n xs)
    (a : Addr) (m c : Nat) (news : List Value) (hl : news.length = m * size) (hnews : ∀ j u, news[j]? = some u → w.cell? (a.add j) = some u) (h1 : ∀ u ∈ news, u.oneCell' = true)
    (h63 : n + m ≤ maxLen) (hbytes : (n + m) * bytes ≤ 140737488355328) (hbase : base ≤ w.heap.size) :
    ∃ v' w', (Builtin.append_ #[t, t] ty #[v, .slice (some a) m c]).run Tryd.prog w = .ok v' w' ∧ w'.ownsRow base e size v' (n + m) (xs ++ news) ∧ w.grownBy w' v.ownBlock ∧
      (∀ g, v.ownBlock = some g → (∀ j u, xs[j]? = some u → w'.cell? ⟨g, j, none⟩ = some u) ∧ ∀ g', v'.ownBlock = some g' → g' = g ∨ w.heap.size ≤ g') := by
  obtain ⟨v', w', hr, h2, h3, _⟩ := run_append_own (P := Tryd.prog) w base t ty e i z size bytes ht hi hz hsize hby hzs hsz v n xs hown a m c news hl hnews h1 h63 hbytes hbase
  refine ⟨v', w', hr, h2, h3, ?_⟩
  intro g hg
  subst hsize
  subst hby
  have hadd : ∀ g' j : Nat, (⟨g', 0, none⟩ : Addr).add j = ⟨g', j, none⟩ := fun g' j => by unfold Addr.add; split <;> simp_all
  rcases hown.2 with ⟨rfl, _⟩ | ⟨g', cap, cur, rfl, hbg, hgg, hnc, hcm, hcs, htake⟩
  · simp [Value.ownBlock] at hg
  · simp [Value.ownBlock] at hg
    subst hg
    by_cases hroom : n + m ≤ cap
    · have hfit : n * i.size + news.length ≤ cur.size := by rw [hl, hcs, ← Nat.add_mul]; exact Nat.mul_le_mul_right _ hroom
      have hr' := run_append_room (P := Tryd.prog) w t ty e i ht hi g' n cap cur hgg a m c news hl hnews h1 hroom hfit
      rw [hr] at hr'
      have hv : v' = .slice (some ⟨g', 0, none⟩) (n + m) cap := by injection hr'
      refine ⟨fun j u hu => ?_, fun g2 h2' => ?_⟩
      · have hj : j < xs.length := (List.getElem?_eq_some_iff.1 hu).1
        have h5 := h2.cells (g := g') (by rw [hv]; rfl) j u (by rw [List.getElem?_append_left hj]; exact hu)
        rw [hadd] at h5
        exact h5
      · rw [hv] at h2'
        exact Or.inl (Option.some.inj h2').symm
    · have hsmall : n + m ≤ 9223372036854775807 := by simp only [maxLen] at h63; omega
      have hold : ∀ j u, xs[j]? = some u → w.cell? ((⟨g', 0, none⟩ : Addr).add j) = some u := hown.cells (g := g') rfl
      have hr' := run_append_grow (P := Tryd.prog) w t ty e i z ht hi hz ⟨g', 0, none⟩ n cap xs hown.1 hold a m c news hl hnews (by omega) (by omega) (growslice_fits (by omega) hbytes)
      rw [hr] at hr'
      have hw := (Result.ok.inj hr').2
      have hv := (Result.ok.inj hr').1
      have hlt : g' < w.heap.size := (Array.getElem?_eq_some_iff.1 hgg).1
      have hsame : w'.heap[g']? = w.heap[g']? := by rw [hw]; exact heap_alloc_old w.drew _ hlt
      refine ⟨fun j u hu => ?_, fun g2 h2' => ?_⟩
      · have holds := hold j u hu
        rw [hadd] at holds
        rw [← holds]
        simp only [World.cell?, hsame]
      · rw [hv] at h2'
        exact Or.inr (Nat.le_of_eq (Option.some.inj h2'))
theorem wp_append_keep2 (w : World) {o : Oper} {a : Act} {K : Act → World → Prop} {Q : Exit → Act → World → Prop} (s x : Operand) (t : TypeId)
    (ho : o.op = .call { callee := .builtin .append, args := #[s, x], argTypes := #[t, t] })
    (base : Nat) (e : TypeId) (i : TypeInfo) (z : Value) (size bytes : Nat) (ht : Tryd.prog.underlying t = some (.slice e)) (hi : Tryd.prog.info? e = some i) (hz : i.zero = some z)
    (hsize : i.size = size) (hby : i.bytes = bytes) (hzs : z.cells.size = size) (hsz : 0 < size)
    (v : Value) (n : Nat) (xs : List Value) (hs : a.eval s = v) (hown : w.ownsRow base e size v n xs)
    (ad : Addr) (m c : Nat) (news : List Value) (hx : a.eval x = .slice (some ad) m c) (hl : news.length = m * size) (hnews : ∀ j u, news[j]? = some u → w.cell? (ad.add j) = some u) (h1 : ∀ u ∈ news, u.oneCell' = true)
    (h63 : n + m ≤ maxLen) (hbytes : (n + m) * bytes ≤ 140737488355328) (hbase : base ≤ w.heap.size)
    (h : ∀ v' w', w'.ownsRow base e size v' (n + m) (xs ++ news) → w.grownBy w' v.ownBlock → (∀ g, v.ownBlock = some g → (∀ j u, xs[j]? = some u → w'.cell? ⟨g, j, none⟩ = some u) ∧ ∀ g', v'.ownBlock = some g' → g' = g ∨ w.heap.size ≤ g') → K (a.put o.dst v') w') : o.wp Tryd.prog a w K Q := by
  obtain ⟨v', w', hr, h2, h3, h4⟩ := run_append_keep2 w base t o.type e i z size bytes ht hi hz hsize hby hzs hsz v n xs hown ad m c news hl hnews h1 h63 hbytes hbase
  unfold Oper.wp execOp
  simp only [ho, resolve, invoke, builtin, Sem.run_bind, Sem.run_pure, Result.andThen_ok, List.map_toArray, List.map_cons, List.map_nil, hs, hx, hr]
  exact h v' w' h2 h3 h4
theorem wpList_append_keep2 (w : World) {ops : Array Oper} {rest : List Oper} {o : Oper} {a : Act} {Q : Exit → Act → World → Prop} (hgd : o.guard = none) (s x : Operand) (t : TypeId)
    (ho : o.op = .call { callee := .builtin .append, args := #[s, x], argTypes := #[t, t] })
    (base : Nat) (e : TypeId) (i : TypeInfo) (z : Value) (size bytes : Nat) (ht : Tryd.prog.underlying t = some (.slice e)) (hi : Tryd.prog.info? e = some i) (hz : i.zero = some z)
    (hsize : i.size = size) (hby : i.bytes = bytes) (hzs : z.cells.size = size) (hsz : 0 < size)
    (v : Value) (n : Nat) (xs : List Value) (hs : a.eval s = v) (hown : w.ownsRow base e size v n xs)
    (ad : Addr) (m c : Nat) (news : List Value) (hx : a.eval x = .slice (some ad) m c) (hl : news.length = m * size) (hnews : ∀ j u, news[j]? = some u → w.cell? (ad.add j) = some u) (h1 : ∀ u ∈ news, u.oneCell' = true)
    (h63 : n + m ≤ maxLen) (hbytes : (n + m) * bytes ≤ 140737488355328) (hbase : base ≤ w.heap.size)
    (h : ∀ v' w', w'.ownsRow base e size v' (n + m) (xs ++ news) → w.grownBy w' v.ownBlock → (∀ g, v.ownBlock = some g → (∀ j u, xs[j]? = some u → w'.cell? ⟨g, j, none⟩ = some u) ∧ ∀ g', v'.ownBlock = some g' → g' = g ∨ w.heap.size ≤ g') → wpList Tryd.prog ops Q rest (a.put o.dst v') w') : wpList Tryd.prog ops Q (o :: rest) a w :=
  wpList_plain hgd fun _ hK => wp_append_keep2 w s x t ho base e i z size bytes ht hi hz hsize hby hzs hsz v n xs hs hown ad m c news hx hl hnews h1 h63 hbytes hbase fun v' w' h2 h3 h4 => hK _ _ (h v' w' h2 h3 h4)
/-- A list of one's own lies in no block but its own. -/
theorem OwnL.own_lt {w : World} {base k : Nat} {v : Value} {l : List Nat} (h : OwnL w base v l) (hk : v.ownBlock = some k) : k < w.heap.size := by
  rcases h.2 with ⟨hn, _⟩ | ⟨g, cap, cur, hL, hb, hg, _⟩
  · rw [hn] at hk; cases hk
  · rw [hL] at hk; cases hk; exact (Array.getElem?_eq_some_iff.1 hg).1
theorem OwnL.same {w w' : World} {base : Nat} {v : Value} {l : List Nat} (h : OwnL w base v l) (hs : ∀ k, v.ownBlock = some k → w'.heap[k]? = w.heap[k]?) : OwnL w' base v l := by
  refine ⟨h.1, ?_⟩
  rcases h.2 with hn | ⟨g, cap, cur, hL, hb, hg, rest⟩
  · exact Or.inl hn
  · exact Or.inr ⟨g, cap, cur, hL, hb, by rw [hs g (by rw [hL]; rfl)]; exact hg, rest⟩
/-- The other list, and that the two are apart, where one has grown. -/
theorem OwnL.beside {w w' : World} {base : Nat} {v v' g : Value} {l : List Nat} (h : OwnL w base g l) (hgr : w.grownBy w' v.ownBlock) (hne : ∀ k, v.ownBlock = some k → g.ownBlock ≠ some k) : OwnL w' base g l ∧ ((∀ b, v.ownBlock = some b → ∀ b', v'.ownBlock = some b' → b' = b ∨ w.heap.size ≤ b') → (∃ b, v.ownBlock = some b) → ∀ k, v'.ownBlock = some k → g.ownBlock ≠ some k) := by
  refine ⟨h.same (fun k hk => hgr.block k (h.own_lt hk) (fun e => hne k e.symm hk)), fun hk2 ⟨b, hb⟩ k hk hg => ?_⟩
  rcases hk2 b hb k hk with e | e
  · exact hne b hb (e ▸ hg)
  · have := h.own_lt hg; omega
end Go.Proofs.YtoipnjfajandmaaDoor

