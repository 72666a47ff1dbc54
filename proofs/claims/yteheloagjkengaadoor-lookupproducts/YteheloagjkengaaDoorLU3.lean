/- slices.SortFunc over a block of elements. -/
import Derived.Test.YteheloagjkengaaDoorLU2
import Derived.Test.YteheloagjkengaaDoorL5
namespace Go.Proofs.YteheloagjkengaaDoor
open Go.RowKit Go.Sort

/-- The numbers of slices.SortFunc and what it calls. -/
def sortE_ren : Go.Shelf.Ren := ⟨fun | 6 => 41 | 15 => 53 | 14 => 52 | 28 => 73 | 29 => 74 | 20 => 65 | 21 => 66 | 22 => 67 | 23 => 68 | 24 => 69 | 25 => 70 | 26 => 71 | 27 => 72 | 46 => 86 | 47 => 87 | 48 => 88 | 49 => 89 | 50 => 90 | 57 => 96 | n => n, fun | 22 => 22 | 24 => 25 | 25 => 80 | 3 => 3 | 39 => 60 | 0 => 0 | 53 => 108 | 55 => 23 | 4 => 4 | 46 => 101 | 45 => 100 | 50 => 105 | 5 => 5 | 9 => 9 | 66 => 123 | 70 => 127 | 76 => 133 | 77 => 134 | n => n, fun | n => n⟩
theorem sortE : Go.Proofs.SlLaysF0.n6 Tryd.prog sortE_ren := {
  mixed := by kernel_rfl
  f6 := ⟨Tryd.f41.name, by decide, Tryd.func41.trans (congrArg some (by kernel_rfl))⟩
  f14 := ⟨Tryd.f52.name, by decide, Tryd.func52.trans (congrArg some (by kernel_rfl))⟩
  f15 := Tryd.func53.trans (congrArg some (by kernel_rfl))
  f20 := ⟨Tryd.f65.name, by decide, Tryd.func65.trans (congrArg some (by kernel_rfl))⟩
  f21 := ⟨Tryd.f66.name, by decide, Tryd.func66.trans (congrArg some (by kernel_rfl))⟩
  f22 := ⟨Tryd.f67.name, by decide, Tryd.func67.trans (congrArg some (by kernel_rfl))⟩
  f23 := ⟨Tryd.f68.name, by decide, Tryd.func68.trans (congrArg some (by kernel_rfl))⟩
  f24 := ⟨Tryd.f69.name, by decide, Tryd.func69.trans (congrArg some (by kernel_rfl))⟩
  f25 := ⟨Tryd.f70.name, by decide, Tryd.func70.trans (congrArg some (by kernel_rfl))⟩
  f26 := ⟨Tryd.f71.name, by decide, Tryd.func71.trans (congrArg some (by kernel_rfl))⟩
  f27 := ⟨Tryd.f72.name, by decide, Tryd.func72.trans (congrArg some (by kernel_rfl))⟩
  f28 := Tryd.func73.trans (congrArg some (by kernel_rfl))
  f29 := Tryd.func74.trans (congrArg some (by kernel_rfl))
  f46 := ⟨Tryd.f86.name, by decide, Tryd.func86.trans (congrArg some (by kernel_rfl))⟩
  f47 := Tryd.func87.trans (congrArg some (by kernel_rfl))
  f48 := Tryd.func88.trans (congrArg some (by kernel_rfl))
  f49 := ⟨Tryd.f89.name, by decide, Tryd.func89.trans (congrArg some (by kernel_rfl))⟩
  f50 := ⟨Tryd.f90.name, by decide, Tryd.func90.trans (congrArg some (by kernel_rfl))⟩
  f57 := ⟨Tryd.f96.name, by decide, Tryd.func96.trans (congrArg some (by kernel_rfl))⟩
  t0 := Tryd.underlying0
  a0 := Tryd.isAgg0
  z0 := Tryd.sizeOf0
  v0 := Tryd.zeroValue0
  t3 := Tryd.underlying3
  a3 := Tryd.isAgg3
  z3 := Tryd.sizeOf3
  v3 := Tryd.zeroValue3
  t4 := Tryd.underlying4
  a4 := Tryd.isAgg4
  z4 := Tryd.sizeOf4
  v4 := Tryd.zeroValue4
  t5 := Tryd.underlying5
  a5 := Tryd.isAgg5
  z5 := Tryd.sizeOf5
  v5 := Tryd.zeroValue5
  t9 := Tryd.underlying9
  a9 := Tryd.isAgg9
  z9 := Tryd.sizeOf9
  v9 := Tryd.zeroValue9
  t22 := Tryd.underlying22
  a22 := Tryd.isAgg22
  z22 := Tryd.sizeOf22
  v22 := Tryd.zeroValue22
  t25 := Tryd.underlying80
  a25 := Tryd.isAgg80
  z25 := Tryd.sizeOf80
  v25 := Tryd.zeroValue80
  t39 := Tryd.underlying60
  a39 := Tryd.isAgg60
  z39 := Tryd.sizeOf60
  v39 := Tryd.zeroValue60
  t45 := Tryd.underlying100
  a45 := Tryd.isAgg100
  z45 := Tryd.sizeOf100
  v45 := Tryd.zeroValue100
  t46 := Tryd.underlying101
  a46 := Tryd.isAgg101
  z46 := Tryd.sizeOf101
  v46 := Tryd.zeroValue101
  t50 := Tryd.underlying105
  a50 := Tryd.isAgg105
  z50 := Tryd.sizeOf105
  v50 := Tryd.zeroValue105
  t53 := Tryd.underlying108
  a53 := Tryd.isAgg108
  z53 := Tryd.sizeOf108
  v53 := Tryd.zeroValue108
  t55 := Tryd.underlying23
  a55 := Tryd.isAgg23
  z55 := Tryd.sizeOf23
  v55 := Tryd.zeroValue23
  t66 := Tryd.underlying123
  a66 := Tryd.isAgg123
  z66 := Tryd.sizeOf123
  v66 := Tryd.zeroValue123
  t70 := Tryd.underlying127
  a70 := Tryd.isAgg127
  z70 := Tryd.sizeOf127
  v70 := Tryd.zeroValue127
  t76 := Tryd.underlying133
  a76 := Tryd.isAgg133
  z76 := Tryd.sizeOf133
  v76 := Tryd.zeroValue133
  t77 := Tryd.underlying134
  a77 := Tryd.isAgg134
  z77 := Tryd.sizeOf134
  v77 := Tryd.zeroValue134 }


theorem sortK_blk {w : World} {G n m : Nat} {f : Nat → Nat} (hb : BlkE w G n f) (d : Array Nat) (hd : d.size = n) (os : Array Obj) : BlkE (sortWorldK encE 4 w G 0 m d os) G n (fun i => d[i]!) := by
  have hl := hb.lt
  obtain ⟨c, hc, hs, _⟩ := hb
  refine ⟨putCells id 0 (flatK encE 4 d) c, ?_, by simp [putCells, hs], fun i hi j hj => ?_⟩
  · show ((w.heap.modify G (onCells (putCells id 0 (flatK encE 4 d)))) ++ os)[G]? = _
    rw [Array.getElem?_append_left (by simpa using hl), Array.getElem?_modify, if_pos rfl, hc]
    rfl
  · have hlt : i * 4 + j < c.size := by omega
    have hf : (flatK encE 4 d)[i * 4 + j]! = .int .u64 ((limb j d[i]! : Nat) : Int) := by
      rw [get_flatK encE 4 d _ (by omega), show (i * 4 + j) / 4 = i by omega, show (i * 4 + j) % 4 = j by omega, encE_get _ _ hj]
    unfold putCells
    rw [Array.getElem?_mapIdx, Array.getElem?_eq_getElem hlt]
    simp only [Option.map_some, Nat.zero_add, Nat.zero_le, true_and, size_flatK, Nat.sub_zero, id_eq, hf]
    rw [if_pos (by omega)]
theorem sortK_kept (w : World) (G m : Nat) (d : Array Nat) (os : Array Obj) : Kept G w (sortWorldK encE 4 w G 0 m d os) := by
  refine ⟨rfl, rfl, rfl, ?_, fun k hk hne => ?_⟩
  · show w.heap.size ≤ ((w.heap.modify G (onCells (putCells id 0 (flatK encE 4 d)))) ++ os).size
    simp
  · show ((w.heap.modify G (onCells (putCells id 0 (flatK encE 4 d)))) ++ os)[k]? = _
    rw [Array.getElem?_append_left (by simpa using hk), Array.getElem?_modify, if_neg (fun e => hne e.symm)]
theorem fl_arr {n : Nat} {f : Nat → Nat} {i : Nat} (h : i < n) : (fl n f).toArray[i]! = f i := by
  rw [getElem!_pos _ _ (by simpa [fl] using h)]
  simp [fl]
theorem arr_list (d : Array Nat) (i : Nat) : d[i]! = d.toList.getD i 0 := by
  rcases Nat.lt_or_ge i d.size with h | h
  · rw [getElem!_pos d i h]; simp [List.getD_eq_getElem?_getD, h]
  · rw [getElem!_neg d i (by omega)]; simp [List.getD_eq_getElem?_getD, h]
/-- slices.SortFunc by compare: the block holds its elements, rising. -/
theorem sort_any (G n c : Nat) (f : Nat → Nat) (hn : n ≤ 1000000) (hf : ∀ i, i < n → f i < 115792089237316195423570985008687907853269984665640564039457584007913129639936) (w : World) (hb : BlkE w G n f) :
    Calls Tryd.prog 41 #[.slice (some ⟨G, 0, none⟩) n c, .func (.func 42) #[] #[]] w fun e w' => e = .returned (.tuple #[]) ∧ BlkE w' G n (fun i => (rsg (fl n f)).getD i 0) ∧ Kept G w w' := by
  have hs : (fl n f).toArray.size = n := by simp [fl]
  have hH : HoldsK encE 4 w G 0 (fl n f).toArray := by
    intro t ht
    rw [size_flatK, hs] at ht
    refine ⟨?_, hb.frozen _⟩
    have h := hb.cell (t / 4) (by omega) (t % 4) (by omega)
    rw [show t / 4 * 4 + t % 4 = 0 + t by omega] at h
    rw [h, get_flatK encE 4 _ _ (by rw [hs]; exact ht), encE_get _ _ (by omega), fl_arr (by omega)]
    rfl
  have eg : ∀ args w, (callFunc 42 args).run Tryd.prog w = .ok (.enter 42 args) w := enters_of Tryd.func42 (by kernel_rfl) rfl
  have hcon := AnyQ.slices_SortFunc sortE 4 Tryd.isAgg25 Tryd.sizeOf25 encE (fun _ => rfl) (fun x v hv => by simp [encE] at hv; rcases hv with rfl | rfl | rfl | rfl <;> rfl) cmpM swoE 42 #[] G 0 c (fl n f).toArray w eg (cmpLaysE G 0 (fl n f).toArray.size w) hH hb.lt (by rw [hs]; omega)
  change Calls Tryd.prog 41 _ _ _ at hcon
  rw [hs] at hcon
  refine hcon.mono ?_
  rintro e w' ⟨rfl, d', m, os, ⟨p1, _, p3⟩, hsd, rfl⟩
  rw [hs] at p1
  have hp : d'.toList.Perm (fl n f) := by
    have e1 : d'.extract 0 n = d' := by rw [← p1]; simp
    have e2 : (fl n f).toArray.extract 0 n = (fl n f).toArray := by simp [List.take_of_length_le, fl_len]
    rw [e1, e2] at p3
    exact p3
  have hlt : ∀ i, i < n → d'[i]! < 115792089237316195423570985008687907853269984665640564039457584007913129639936 := by
    intro i hi
    have hm : d'[i]! ∈ fl n f := by
      rw [← hp.mem_iff, getElem!_pos d' i (by omega)]
      exact Array.getElem_mem_toList _
    obtain ⟨k, hk, e⟩ := fl_mem.1 hm
    rw [← e]; exact hf k hk
  have hasc : Asc d'.toList := by
    refine List.pairwise_iff_getElem.2 fun i j hi hj hij => ?_
    have hi' : i < d'.size := by simpa using hi
    have hj' : j < d'.size := by simpa using hj
    have h := hsd i j (Nat.zero_le _) hij (by omega)
    have a := hlt i (by omega)
    have b := hlt j (by omega)
    rw [ltE, Nat.mod_eq_of_lt a, Nat.mod_eq_of_lt b, decide_eq_false_iff_not, getElem!_pos d' i hi', getElem!_pos d' j hj'] at h
    rw [Array.getElem_toList, Array.getElem_toList]
    omega
  have ho := rsg_only hasc hp
  refine ⟨rfl, (sortK_blk hb d' p1 os).congr (fun i _ => ?_), sortK_kept _ _ _ _ _⟩
  rw [arr_list, ho]
end Go.Proofs.YteheloagjkengaaDoor
