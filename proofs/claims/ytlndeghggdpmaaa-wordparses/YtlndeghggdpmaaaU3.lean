/- What word.Parse does. -/
import Derived.Test.YtlndeghggdpmaaaU2
import Derived.Test.YtlndeghggdpmaaaCore7
namespace Go.Proofs.Ytlndeghggdpmaaa
open Go.RowKit

/-- An iterator over a string, set on. -/
def setIter (w : World) (N : Nat) (s : ByteArray) (p : Nat) : World := { w with heap := w.heap.setIfInBounds N (.stringIter s p) }
theorem setIter_at (w : World) (N : Nat) (s : ByteArray) (p : Nat) (h : N < w.heap.size) : (setIter w N s p).heap[N]? = some (.stringIter s p) := by
  simp [setIter, h]
theorem setIter_other (w : World) (N : Nat) (s : ByteArray) (p b : Nat) (h : b ≠ N) : (setIter w N s p).heap[b]? = w.heap[b]? := by
  simp [setIter, Ne.symm h]
theorem setIter_below (w : World) (N : Nat) (s : ByteArray) (p B : Nat) (h : B ≤ N) : Below B w (setIter w N s p) :=
  ⟨rfl, rfl, rfl, by simp [setIter], fun k hk => setIter_other w N s p k (by omega)⟩
theorem run_next_at (w : World) (N : Nat) (s : ByteArray) (pos : Nat) (ty : TypeId) (h : w.heap[N]? = some (.stringIter s pos)) (hp : pos < s.size) :
    (Instr.next (.pointer (some ⟨N, 0, none⟩)) true ty).run Try.prog w = .ok (.tuple #[.bool true, .int .i64 pos, .int .i32 (Utf8.decode s pos).1]) (setIter w N s (pos + (Utf8.decode s pos).2)) := by
  simp only [Instr.next, getObj, setObj, Sem.run_bind, Sem.run, h, Result.andThen, hp, if_true]
  simp [goInt, setIter]
theorem run_next_over (w : World) (N : Nat) (s : ByteArray) (pos : Nat) (ty : TypeId) (h : w.heap[N]? = some (.stringIter s pos)) (hp : ¬ pos < s.size) :
    (Instr.next (.pointer (some ⟨N, 0, none⟩)) true ty).run Try.prog w = .ok (.tuple #[.bool false]) w := by
  simp [Instr.next, getObj, Sem.run, h, hp]
theorem iterPos_of (w : World) (N : Nat) (s : ByteArray) (p : Nat) (h : w.heap[N]? = some (.stringIter s p)) : w.iterPos N = p := by
  simp [World.iterPos, h]
theorem lt_of_iter {w : World} {N : Nat} {o : Obj} (h : w.heap[N]? = some o) : N < w.heap.size := by
  rcases Nat.lt_or_ge N w.heap.size with hl | hl
  · exact hl
  · rw [Array.getElem?_eq_none hl] at h; cases h
/-- What Parse answers, as a value. -/
def parV (p : Nat × Nat) : Value := .tuple #[.agg #[.int .u64 ((limb 0 (p.1) : Nat) : Int), .int .u64 ((limb 1 (p.1) : Nat) : Int), .int .u64 ((limb 2 (p.1) : Nat) : Int), .int .u64 ((limb 3 (p.1) : Nat) : Int)], .int .i64 ((p.2 : Nat) : Int)]
theorem parV_zero (e : Nat) : parV (0, e) = .tuple #[.agg #[.int .u64 0, .int .u64 0, .int .u64 0, .int .u64 0], .int .i64 (e : Int)] := by
  unfold parV
  show Value.tuple #[.agg #[.int .u64 ((limb 0 (0) : Nat) : Int), .int .u64 ((limb 1 (0) : Nat) : Int), .int .u64 ((limb 2 (0) : Nat) : Int), .int .u64 ((limb 3 (0) : Nat) : Int)], _] = _
  rw [limb_zero, limb_zero, limb_zero, limb_zero]
  rfl

set_option maxHeartbeats 1000000 in
theorem parse_long (s : ByteArray) (h : 100000 < s.size) (w : World) :
    Calls Try.prog 9 #[.string s] w fun e w' => e = .returned (parV (0, 12)) ∧ Below w.heap.size w w' := by
  have h1 : (100000 : Int) < (s.size : Int) := by omega
  rw [parV_zero]
  clear h
  go_enter Try.func9, Try.ntmps9
  go_wp2
  refine bodyPost_ret (v := .tuple #[.agg #[.int .u64 0, .int .u64 0, .int .u64 0, .int .u64 0], .int .i64 12]) (by simp [results, Try.results9, go_sem]) rfl ⟨rfl, ?_⟩
  repeat (first | with_reducible exact Below.refl _ _ | with_reducible refine Below.setCell ?_ (by first | omega | (simp; omega) | simp) _ | with_reducible refine Below.alloc ?_ (by first | omega | (simp; omega) | simp) _)

set_option maxHeartbeats 16000000 in
set_option maxRecDepth 20000 in
theorem parse_walk (s t : ByteArray) (b : Nat) (hx : Bool) (R : Nat × Nat) (h : ¬ 100000 < s.size) (hb : (hx = true ∧ b = 16) ∨ (hx = false ∧ b = 10)) (CU : ∀ w, Calls Try.prog 28 #[.string s, .string ⟨#[48, 120]⟩] w fun e w' => e = .returned (.tuple #[.string t, .bool hx]) ∧ w' = w)
    (hR : parseGo b t (t.size + 1) 0 0 false false = R) (w : World) :
    Calls Try.prog 9 #[.string s] w fun e w' => e = .returned (parV R) ∧ Below w.heap.size w w' := by
  have h1 : ¬ (100000 : Int) < (s.size : Int) := by omega
  have hbb : b = 10 ∨ b = 16 := by rcases hb with ⟨_, h⟩ | ⟨_, h⟩ <;> omega
  have DO := fun r d h w => digit_ok b r d hbb h w
  have DN := fun r h w => digit_no b r hbb h w
  have AD := fun num d hd hn w => appendDigit_any b num d (by omega) hd hn w
  have HDO : Hid (∀ (r d : Nat) (h : _) (w : World), _) := DO
  have HDN : Hid (∀ (r : Nat) (h : _) (w : World), _) := DN
  have HAD : Hid (∀ (num d : Nat) (hd : _) (hn : _) (w : World), _) := AD
  have HR : Hid (parseGo b t (t.size + 1) 0 0 false false = R) := hR
  have HBB := (show Hid _ from hbb)
  clear h hR DO DN AD hbb
  rcases hb with ⟨rfl, rfl⟩ | ⟨rfl, rfl⟩
  · go_enter Try.func9, Try.ntmps9
    go_wp2_with fail
    refine (CU _).mono ?_
    rintro e w1 ⟨rfl, rfl⟩
    go_wp2
    go_loopw [8, 9] (fun lv av wr => ∃ (pos num f : Nat) (lg af : Bool), lv = .bool lg ∧ av = .bool af ∧ num < 115792089237316195423570985008687907853269984665640564039457584007913129639936 ∧ 1 ≤ f ∧ t.size + 1 ≤ f + pos ∧ Hid (parseGo 16 t f pos num lg af = R) ∧ Below w.heap.size w wr ∧ Blk wr 24 w.heap.size (fun _ => 0) ∧ Blk wr 24 (w.heap.size + 1) (fun i => limb i num) ∧ wr.heap[w.heap.size + 1 + 1]? = some (.stringIter t pos)) (fun _ _ wr => t.size - wr.iterPos (w.heap.size + 1 + 1))
    case atStart =>
      refine ⟨0, 0, t.size + 1, false, false, rfl, rfl, by decide, by omega, by omega, HR, ?_, ?_, ?_, ?_⟩
      · exact (((Below.refl _ w).alloc (Nat.le_refl _) _).alloc (by simp) _).alloc (by first | (simp; done) | (simp; omega)) (.stringIter t 0)
      · exact ((Blk.newAt _ _ _ (fun _ => 0) rfl).alloc _).alloc _
      · exact ((Blk.newAt _ _ _ (fun _ => 0) (by simp)).congr (fun i _ => limb_zero i)).alloc _
      · have h := World.iter_heap ((w.alloc (.cells #[.int .u64 0, .int .u64 0, .int .u64 0, .int .u64 0] 24)).alloc (.cells #[.int .u64 0, .int .u64 0, .int .u64 0, .int .u64 0] 24)) t 0
        simpa using h
    case round =>
      obtain ⟨pos, num, f, lg, af, rfl, rfl, hn, hf1, hf2, HG, hbr, bR, bN, hit⟩ := hrel
      obtain ⟨g, rfl⟩ : ∃ g, f = g + 1 := ⟨f - 1, by omega⟩
      have hp0 := iterPos_of _ _ _ _ hit
      by_cases hp : pos < t.size
      · have NX := fun ty => run_next_at wr _ t pos ty hit hp
        have hw := decode_width t pos hp
        have G1 := parseGo_line 16 t g pos num lg hp; have G2 := fun h1 => parseGo_none 16 t g pos num lg af hp h1; have G3 := fun d => parseGo_some 16 t g pos num d lg af hp
        obtain ⟨r, er⟩ : ∃ r, r = (Utf8.decode t pos).1 := ⟨_, rfl⟩
        obtain ⟨n, en⟩ : ∃ n, n = (Utf8.decode t pos).2 := ⟨_, rfl⟩
        rw [← er, ← en] at NX G1 G3
        rw [← er] at G2
        rw [← en] at hw
        obtain ⟨w2, hw2⟩ : ∃ w2 : World, w2 = setIter wr (w.heap.size + 1 + 1) t (pos + n) := ⟨_, rfl⟩
        have hl := lt_of_iter hit
        have bR2 : Blk w2 24 w.heap.size (fun _ => 0) := by rw [hw2]; exact bR.below (setIter_below wr _ t (pos + n) (w.heap.size + 1 + 1) (Nat.le_refl _)) (by omega)
        have bN2 : Blk w2 24 (w.heap.size + 1) (fun i => limb i num) := by rw [hw2]; exact bN.below (setIter_below wr _ t (pos + n) (w.heap.size + 1 + 1) (Nat.le_refl _)) (by omega)
        have hit2 : w2.heap[w.heap.size + 1 + 1]? = some (.stringIter t (pos + n)) := by rw [hw2]; exact setIter_at _ _ _ _ hl
        have hbw2 : Below w.heap.size w w2 := by rw [hw2]; exact hbr.trans (setIter_below wr _ t (pos + n) w.heap.size (by omega))
        rw [← hw2] at NX
        have HP : Hid (wr.iterPos (w.heap.size + 1 + 1) = pos ∧ pos < t.size ∧ 1 ≤ n) := ⟨hp0, hp, hw⟩
        have HF : Hid (1 ≤ g ∧ t.size + 1 ≤ g + (pos + n)) := by show _ ∧ _; omega
        have HN : Hid (num < 115792089237316195423570985008687907853269984665640564039457584007913129639936) := hn
        clear hw2 bR bN hit hbr hl er en hp0 hp hw hf1 hf2 hn
        by_cases hr : r = 95 ∧ af = true
        · obtain ⟨rfl, rfl⟩ := hr
          have G := G1 rfl
          have HG2 : Hid (parseGo 16 t g (pos + n) num lg false = R) := by show _ = _; rw [← G]; exact HG.out
          clear G G1 G2 G3 HG
          go_wp2
          go_roundw
          case measure => rw [HP.out.1, iterPos_of _ _ _ _ hit2]; have := HP.out.2; omega
          case rel => exact ⟨pos + n, num, g, lg, false, rfl, rfl, HN.out, HF.out.1, HF.out.2, HG2, hbw2, bR2, bN2, hit2⟩
        · have hc : (((r : Nat) : Int) == 95 && af) = false := by
            rw [Bool.eq_false_iff]
            intro hh
            rw [Bool.and_eq_true] at hh
            exact hr ⟨by have := hh.1; simp at this; omega, hh.2⟩
          have hcc : ((((r : Nat) : Int) == 95) = true ∧ af = false) ∨ (((r : Nat) : Int) == 95) = false := by
            cases h95 : (((r : Nat) : Int) == 95) with
            | false => exact Or.inr rfl
            | true => rw [h95, Bool.true_and] at hc; exact Or.inl ⟨rfl, hc⟩
          cases hd : digV 16 r with
          | none =>
            have G := G2 hr hd
            have HE : Hid (R = (0, 11)) := by show _ = _; rw [← HG.out]; exact G
            have DN := HDN.out r hd
            clear G G1 G2 G3 HG hr hc hd
            rcases hcc with ⟨hc1, rfl⟩ | hc1
            all_goals
              go_wp2_with fail
              refine (DN _).mono ?_
              rintro e w3 ⟨rfl, rfl⟩
              have cr := bR2.cell; have fr := bR2.frozen
              go_wp2
              refine bodyPost_ret (v := .tuple #[.agg #[.int .u64 0, .int .u64 0, .int .u64 0, .int .u64 0], .int .i64 11]) (by simp [results, Try.results9, go_sem, cr]) rfl ⟨by rw [HE.out, parV_zero]; rfl, ?_⟩
              repeat (first | with_reducible exact hbw2 | with_reducible refine Below.setCell ?_ (by first | omega | (simp; omega) | simp) _)
          | some d =>
            have hdl := digV_lt hd
            have G := G3 d hd
            have HG2 : Hid (parseGo 16 t g (pos + n) (stepN 16 num d) (lg || stepL 16 num d) true = R) := by show _ = _; rw [← G]; exact HG.out
            have DO := HDO.out r d hd
            have AD := HAD.out num d (by omega) HN.out
            have hsn := stepN_lt 16 num d
            obtain ⟨sn, esn⟩ : ∃ sn, sn = stepN 16 num d := ⟨_, rfl⟩
            obtain ⟨sl, esl⟩ : ∃ sl, sl = stepL 16 num d := ⟨_, rfl⟩
            rw [← esn] at HG2 AD hsn
            rw [← esl] at HG2 AD
            have HSN : Hid (sn < 115792089237316195423570985008687907853269984665640564039457584007913129639936) := hsn
            clear G G1 G2 G3 HG hr hc hd esn esl hsn hdl
            rcases hcc with ⟨hc1, rfl⟩ | hc1
            all_goals
              go_wp2_with fail
              refine (DO _).mono ?_
              rintro e w3 ⟨rfl, rfl⟩
              have cN := bN2.cell
              go_wp2_with fail
              refine (AD _).mono ?_
              rintro e w4 ⟨rfl, hb4⟩
              have bR4 := bR2.belowAll hb4; have bN4 := bN2.belowAll hb4
              have hit4 : w4.heap[w.heap.size + 1 + 1]? = some (.stringIter t (pos + n)) := by rw [hb4.block _ (lt_of_iter hit2)]; exact hit2
              have hbw4 := bStep hbw2 hb4
              clear bR2 bN2 hit2 hbw2 hb4 cN
              have cN := bN4.cell; have fN := bN4.frozen
              go_upto_region 20 with fail
              obtain ⟨w5, hw5⟩ : ∃ w5 : World, w5 = (((w4.setCell ⟨w.heap.size + 1, 0, none⟩ (.int .u64 ((limb 0 sn : Nat) : Int))).setCell ⟨w.heap.size + 1, 1, none⟩ (.int .u64 ((limb 1 sn : Nat) : Int))).setCell ⟨w.heap.size + 1, 2, none⟩ (.int .u64 ((limb 2 sn : Nat) : Int))).setCell ⟨w.heap.size + 1, 3, none⟩ (.int .u64 ((limb 3 sn : Nat) : Int)) := ⟨_, rfl⟩
              have bN5 : Blk w5 24 (w.heap.size + 1) (fun i => limb i sn) := by rw [hw5]; exact bN4.set4 (fun i => limb i sn)
              have bR5 : Blk w5 24 w.heap.size (fun _ => 0) := by rw [hw5]; exact bR4.other4 (by omega) _ _ _ _
              have hit5 : w5.heap[w.heap.size + 1 + 1]? = some (.stringIter t (pos + n)) := by rw [hw5, Below.heap_setCell _ _ _ _ (by dsimp only; omega), Below.heap_setCell _ _ _ _ (by dsimp only; omega), Below.heap_setCell _ _ _ _ (by dsimp only; omega), Below.heap_setCell _ _ _ _ (by dsimp only; omega)]; exact hit4
              have hbw5 : Below w.heap.size w w5 := by rw [hw5]; exact bSet4 hbw4 (by omega) _ _ _ _
              rw [← hw5]
              clear hw5 bN4 bR4 hit4 hbw4 cN fN
              cases lg
              all_goals
                go_wp2
                go_roundw
                case measure => rw [HP.out.1, iterPos_of _ _ _ _ hit5]; have := HP.out.2; omega
                case rel => exact ⟨pos + n, sn, g, _, true, rfl, rfl, HSN.out, HF.out.1, HF.out.2, HG2, hbw5, bR5, bN5, hit5⟩
      · have NX := fun ty => run_next_over wr _ t pos ty hit hp
        have G := parseGo_end 16 t g pos num lg af hp
        have HE : Hid (R = if af = false then (0, 11) else if lg = true then (0, 12) else (num, 0)) := by show _ = _; rw [← HG.out]; exact G
        clear G HG hit
        have cr := bR.cell; have fr := bR.frozen; have cN := bN.cell
        cases af
        · have HE2 : Hid (R = (0, 11)) := by show _ = _; rw [HE.out]; rfl
          clear HE
          go_wp2
          refine bodyPost_ret (v := .tuple #[.agg #[.int .u64 0, .int .u64 0, .int .u64 0, .int .u64 0], .int .i64 11]) (by simp [results, Try.results9, go_sem, cr]) rfl ⟨by rw [HE2.out, parV_zero]; rfl, ?_⟩
          repeat (first | with_reducible exact hbr | with_reducible refine Below.setCell ?_ (by first | omega | (simp; omega) | simp) _)
        · cases lg
          · have HE2 : Hid (R = (num, 0)) := by show _ = _; rw [HE.out]; rfl
            clear HE
            go_wp2
            refine bodyPost_ret (v := .tuple #[.agg #[.int .u64 ((limb 0 (num) : Nat) : Int), .int .u64 ((limb 1 (num) : Nat) : Int), .int .u64 ((limb 2 (num) : Nat) : Int), .int .u64 ((limb 3 (num) : Nat) : Int)], .int .i64 0]) (by simp [results, Try.results9, go_sem, cr]) rfl ⟨by rw [HE2.out]; rfl, ?_⟩
            repeat (first | with_reducible exact hbr | with_reducible refine Below.setCell ?_ (by first | omega | (simp; omega) | simp) _)
          · have HE2 : Hid (R = (0, 12)) := by show _ = _; rw [HE.out]; rfl
            clear HE
            go_wp2
            refine bodyPost_ret (v := .tuple #[.agg #[.int .u64 0, .int .u64 0, .int .u64 0, .int .u64 0], .int .i64 12]) (by simp [results, Try.results9, go_sem, cr]) rfl ⟨by rw [HE2.out, parV_zero]; rfl, ?_⟩
            repeat (first | with_reducible exact hbr | with_reducible refine Below.setCell ?_ (by first | omega | (simp; omega) | simp) _)
  · go_enter Try.func9, Try.ntmps9
    go_wp2_with fail
    refine (CU _).mono ?_
    rintro e w1 ⟨rfl, rfl⟩
    go_wp2
    go_loopw [8, 9] (fun lv av wr => ∃ (pos num f : Nat) (lg af : Bool), lv = .bool lg ∧ av = .bool af ∧ num < 115792089237316195423570985008687907853269984665640564039457584007913129639936 ∧ 1 ≤ f ∧ t.size + 1 ≤ f + pos ∧ Hid (parseGo 10 t f pos num lg af = R) ∧ Below w.heap.size w wr ∧ Blk wr 24 w.heap.size (fun _ => 0) ∧ Blk wr 24 (w.heap.size + 1) (fun i => limb i num) ∧ wr.heap[w.heap.size + 1 + 1]? = some (.stringIter t pos)) (fun _ _ wr => t.size - wr.iterPos (w.heap.size + 1 + 1))
    case atStart =>
      refine ⟨0, 0, t.size + 1, false, false, rfl, rfl, by decide, by omega, by omega, HR, ?_, ?_, ?_, ?_⟩
      · exact (((Below.refl _ w).alloc (Nat.le_refl _) _).alloc (by simp) _).alloc (by first | (simp; done) | (simp; omega)) (.stringIter t 0)
      · exact ((Blk.newAt _ _ _ (fun _ => 0) rfl).alloc _).alloc _
      · exact ((Blk.newAt _ _ _ (fun _ => 0) (by simp)).congr (fun i _ => limb_zero i)).alloc _
      · have h := World.iter_heap ((w.alloc (.cells #[.int .u64 0, .int .u64 0, .int .u64 0, .int .u64 0] 24)).alloc (.cells #[.int .u64 0, .int .u64 0, .int .u64 0, .int .u64 0] 24)) t 0
        simpa using h
    case round =>
      obtain ⟨pos, num, f, lg, af, rfl, rfl, hn, hf1, hf2, HG, hbr, bR, bN, hit⟩ := hrel
      obtain ⟨g, rfl⟩ : ∃ g, f = g + 1 := ⟨f - 1, by omega⟩
      have hp0 := iterPos_of _ _ _ _ hit
      by_cases hp : pos < t.size
      · have NX := fun ty => run_next_at wr _ t pos ty hit hp
        have hw := decode_width t pos hp
        have G1 := parseGo_line 10 t g pos num lg hp; have G2 := fun h1 => parseGo_none 10 t g pos num lg af hp h1; have G3 := fun d => parseGo_some 10 t g pos num d lg af hp
        obtain ⟨r, er⟩ : ∃ r, r = (Utf8.decode t pos).1 := ⟨_, rfl⟩
        obtain ⟨n, en⟩ : ∃ n, n = (Utf8.decode t pos).2 := ⟨_, rfl⟩
        rw [← er, ← en] at NX G1 G3
        rw [← er] at G2
        rw [← en] at hw
        obtain ⟨w2, hw2⟩ : ∃ w2 : World, w2 = setIter wr (w.heap.size + 1 + 1) t (pos + n) := ⟨_, rfl⟩
        have hl := lt_of_iter hit
        have bR2 : Blk w2 24 w.heap.size (fun _ => 0) := by rw [hw2]; exact bR.below (setIter_below wr _ t (pos + n) (w.heap.size + 1 + 1) (Nat.le_refl _)) (by omega)
        have bN2 : Blk w2 24 (w.heap.size + 1) (fun i => limb i num) := by rw [hw2]; exact bN.below (setIter_below wr _ t (pos + n) (w.heap.size + 1 + 1) (Nat.le_refl _)) (by omega)
        have hit2 : w2.heap[w.heap.size + 1 + 1]? = some (.stringIter t (pos + n)) := by rw [hw2]; exact setIter_at _ _ _ _ hl
        have hbw2 : Below w.heap.size w w2 := by rw [hw2]; exact hbr.trans (setIter_below wr _ t (pos + n) w.heap.size (by omega))
        rw [← hw2] at NX
        have HP : Hid (wr.iterPos (w.heap.size + 1 + 1) = pos ∧ pos < t.size ∧ 1 ≤ n) := ⟨hp0, hp, hw⟩
        have HF : Hid (1 ≤ g ∧ t.size + 1 ≤ g + (pos + n)) := by show _ ∧ _; omega
        have HN : Hid (num < 115792089237316195423570985008687907853269984665640564039457584007913129639936) := hn
        clear hw2 bR bN hit hbr hl er en hp0 hp hw hf1 hf2 hn
        by_cases hr : r = 95 ∧ af = true
        · obtain ⟨rfl, rfl⟩ := hr
          have G := G1 rfl
          have HG2 : Hid (parseGo 10 t g (pos + n) num lg false = R) := by show _ = _; rw [← G]; exact HG.out
          clear G G1 G2 G3 HG
          go_wp2
          go_roundw
          case measure => rw [HP.out.1, iterPos_of _ _ _ _ hit2]; have := HP.out.2; omega
          case rel => exact ⟨pos + n, num, g, lg, false, rfl, rfl, HN.out, HF.out.1, HF.out.2, HG2, hbw2, bR2, bN2, hit2⟩
        · have hc : (((r : Nat) : Int) == 95 && af) = false := by
            rw [Bool.eq_false_iff]
            intro hh
            rw [Bool.and_eq_true] at hh
            exact hr ⟨by have := hh.1; simp at this; omega, hh.2⟩
          have hcc : ((((r : Nat) : Int) == 95) = true ∧ af = false) ∨ (((r : Nat) : Int) == 95) = false := by
            cases h95 : (((r : Nat) : Int) == 95) with
            | false => exact Or.inr rfl
            | true => rw [h95, Bool.true_and] at hc; exact Or.inl ⟨rfl, hc⟩
          cases hd : digV 10 r with
          | none =>
            have G := G2 hr hd
            have HE : Hid (R = (0, 11)) := by show _ = _; rw [← HG.out]; exact G
            have DN := HDN.out r hd
            clear G G1 G2 G3 HG hr hc hd
            rcases hcc with ⟨hc1, rfl⟩ | hc1
            all_goals
              go_wp2_with fail
              refine (DN _).mono ?_
              rintro e w3 ⟨rfl, rfl⟩
              have cr := bR2.cell; have fr := bR2.frozen
              go_wp2
              refine bodyPost_ret (v := .tuple #[.agg #[.int .u64 0, .int .u64 0, .int .u64 0, .int .u64 0], .int .i64 11]) (by simp [results, Try.results9, go_sem, cr]) rfl ⟨by rw [HE.out, parV_zero]; rfl, ?_⟩
              repeat (first | with_reducible exact hbw2 | with_reducible refine Below.setCell ?_ (by first | omega | (simp; omega) | simp) _)
          | some d =>
            have hdl := digV_lt hd
            have G := G3 d hd
            have HG2 : Hid (parseGo 10 t g (pos + n) (stepN 10 num d) (lg || stepL 10 num d) true = R) := by show _ = _; rw [← G]; exact HG.out
            have DO := HDO.out r d hd
            have AD := HAD.out num d (by omega) HN.out
            have hsn := stepN_lt 10 num d
            obtain ⟨sn, esn⟩ : ∃ sn, sn = stepN 10 num d := ⟨_, rfl⟩
            obtain ⟨sl, esl⟩ : ∃ sl, sl = stepL 10 num d := ⟨_, rfl⟩
            rw [← esn] at HG2 AD hsn
            rw [← esl] at HG2 AD
            have HSN : Hid (sn < 115792089237316195423570985008687907853269984665640564039457584007913129639936) := hsn
            clear G G1 G2 G3 HG hr hc hd esn esl hsn hdl
            rcases hcc with ⟨hc1, rfl⟩ | hc1
            all_goals
              go_wp2_with fail
              refine (DO _).mono ?_
              rintro e w3 ⟨rfl, rfl⟩
              have cN := bN2.cell
              go_wp2_with fail
              refine (AD _).mono ?_
              rintro e w4 ⟨rfl, hb4⟩
              have bR4 := bR2.belowAll hb4; have bN4 := bN2.belowAll hb4
              have hit4 : w4.heap[w.heap.size + 1 + 1]? = some (.stringIter t (pos + n)) := by rw [hb4.block _ (lt_of_iter hit2)]; exact hit2
              have hbw4 := bStep hbw2 hb4
              clear bR2 bN2 hit2 hbw2 hb4 cN
              have cN := bN4.cell; have fN := bN4.frozen
              go_upto_region 20 with fail
              obtain ⟨w5, hw5⟩ : ∃ w5 : World, w5 = (((w4.setCell ⟨w.heap.size + 1, 0, none⟩ (.int .u64 ((limb 0 sn : Nat) : Int))).setCell ⟨w.heap.size + 1, 1, none⟩ (.int .u64 ((limb 1 sn : Nat) : Int))).setCell ⟨w.heap.size + 1, 2, none⟩ (.int .u64 ((limb 2 sn : Nat) : Int))).setCell ⟨w.heap.size + 1, 3, none⟩ (.int .u64 ((limb 3 sn : Nat) : Int)) := ⟨_, rfl⟩
              have bN5 : Blk w5 24 (w.heap.size + 1) (fun i => limb i sn) := by rw [hw5]; exact bN4.set4 (fun i => limb i sn)
              have bR5 : Blk w5 24 w.heap.size (fun _ => 0) := by rw [hw5]; exact bR4.other4 (by omega) _ _ _ _
              have hit5 : w5.heap[w.heap.size + 1 + 1]? = some (.stringIter t (pos + n)) := by rw [hw5, Below.heap_setCell _ _ _ _ (by dsimp only; omega), Below.heap_setCell _ _ _ _ (by dsimp only; omega), Below.heap_setCell _ _ _ _ (by dsimp only; omega), Below.heap_setCell _ _ _ _ (by dsimp only; omega)]; exact hit4
              have hbw5 : Below w.heap.size w w5 := by rw [hw5]; exact bSet4 hbw4 (by omega) _ _ _ _
              rw [← hw5]
              clear hw5 bN4 bR4 hit4 hbw4 cN fN
              cases lg
              all_goals
                go_wp2
                go_roundw
                case measure => rw [HP.out.1, iterPos_of _ _ _ _ hit5]; have := HP.out.2; omega
                case rel => exact ⟨pos + n, sn, g, _, true, rfl, rfl, HSN.out, HF.out.1, HF.out.2, HG2, hbw5, bR5, bN5, hit5⟩
      · have NX := fun ty => run_next_over wr _ t pos ty hit hp
        have G := parseGo_end 10 t g pos num lg af hp
        have HE : Hid (R = if af = false then (0, 11) else if lg = true then (0, 12) else (num, 0)) := by show _ = _; rw [← HG.out]; exact G
        clear G HG hit
        have cr := bR.cell; have fr := bR.frozen; have cN := bN.cell
        cases af
        · have HE2 : Hid (R = (0, 11)) := by show _ = _; rw [HE.out]; rfl
          clear HE
          go_wp2
          refine bodyPost_ret (v := .tuple #[.agg #[.int .u64 0, .int .u64 0, .int .u64 0, .int .u64 0], .int .i64 11]) (by simp [results, Try.results9, go_sem, cr]) rfl ⟨by rw [HE2.out, parV_zero]; rfl, ?_⟩
          repeat (first | with_reducible exact hbr | with_reducible refine Below.setCell ?_ (by first | omega | (simp; omega) | simp) _)
        · cases lg
          · have HE2 : Hid (R = (num, 0)) := by show _ = _; rw [HE.out]; rfl
            clear HE
            go_wp2
            refine bodyPost_ret (v := .tuple #[.agg #[.int .u64 ((limb 0 (num) : Nat) : Int), .int .u64 ((limb 1 (num) : Nat) : Int), .int .u64 ((limb 2 (num) : Nat) : Int), .int .u64 ((limb 3 (num) : Nat) : Int)], .int .i64 0]) (by simp [results, Try.results9, go_sem, cr]) rfl ⟨by rw [HE2.out]; rfl, ?_⟩
            repeat (first | with_reducible exact hbr | with_reducible refine Below.setCell ?_ (by first | omega | (simp; omega) | simp) _)
          · have HE2 : Hid (R = (0, 12)) := by show _ = _; rw [HE.out]; rfl
            clear HE
            go_wp2
            refine bodyPost_ret (v := .tuple #[.agg #[.int .u64 0, .int .u64 0, .int .u64 0, .int .u64 0], .int .i64 12]) (by simp [results, Try.results9, go_sem, cr]) rfl ⟨by rw [HE2.out, parV_zero]; rfl, ?_⟩
            repeat (first | with_reducible exact hbr | with_reducible refine Below.setCell ?_ (by first | omega | (simp; omega) | simp) _)

/-- word.Parse. -/
theorem parse_any (s : ByteArray) (w : World) :
    Calls Try.prog 9 #[.string s] w fun e w' => e = .returned (parV (parse0 s)) ∧ Below w.heap.size w w' := by
  by_cases h : 100000 < s.size
  · rw [show parse0 s = (0, 12) from by unfold parse0; rw [if_pos h]]
    exact parse_long s h w
  · have CU := fun w => cut_any s w
    by_cases hx : has0x s = true
    · refine parse_walk s (bodyOf s) 16 true _ h (Or.inl ⟨rfl, rfl⟩) (by rw [hx] at CU; exact CU) ?_ w
      unfold parse0 bodyOf
      rw [if_neg h, if_pos hx, if_pos hx]
    · have hx2 : has0x s = false := by simpa using hx
      refine parse_walk s (bodyOf s) 10 false _ h (Or.inr ⟨rfl, rfl⟩) (by rw [hx2] at CU; exact CU) ?_ w
      unfold parse0 bodyOf
      rw [if_neg h, if_neg hx, if_neg hx]

end Go.Proofs.Ytlndeghggdpmaaa
