/- A node's operation: expr.operationOf. -/
import Derived.Test.YtgldibfpidmfhaaGreatDoorProg
import Derived.Test.YtgldibfpidmfhaaGreatDoorUBM
import Derived.Stop.Asserts
import Derived.Laws.MakeOwn
import Derived.LoopN
import Derived.Deep.DeepCutAuto
import Derived.Deep.CutBlock
namespace Go.Proofs.YtgldibfpidmfhaaGreatDoor
open Go.RowKit
/-- What a node does, as package expr holds it. -/
def opV (O A B : Int) (V : Nat) : Value :=
  if O = 1 then .iface 184 (.agg #[.int .u64 ((limb 0 V : Nat) : Int), .int .u64 ((limb 1 V : Nat) : Int), .int .u64 ((limb 2 V : Nat) : Int), .int .u64 ((limb 3 V : Nat) : Int)])
  else if O = 2 ∨ O = 3 ∨ O = 4 then .iface 151 (.agg #[.int .i64 O, .int .i64 A, .int .i64 B])
  else if O = 5 then .iface 186 (.agg #[.int .i64 A])
  else if O = 6 then .iface 188 (.agg #[.int .i64 A, .int .i64 B])
  else if O = 7 then .iface 189 (.agg #[.int .i64 A, .int .i64 B])
  else if O = 8 then .iface 191 (.agg #[.int .i64 A, .int .u64 ((limb 0 V : Nat) : Int), .int .u64 ((limb 1 V : Nat) : Int), .int .u64 ((limb 2 V : Nat) : Int), .int .u64 ((limb 3 V : Nat) : Int)])
  else .nilIface
def okO (O : Int) : Bool := decide (1 ≤ O ∧ O ≤ 8)
set_option maxHeartbeats 4000000 in
theorem opOf_1 (A B : Int) (V : Nat) (w : World) : Calls Tryz.prog 89 #[.agg #[.int .i64 1, .int .i64 A, .int .i64 B, .int .u64 ((limb 0 V : Nat) : Int), .int .u64 ((limb 1 V : Nat) : Int), .int .u64 ((limb 2 V : Nat) : Int), .int .u64 ((limb 3 V : Nat) : Int)]] w fun e w' => e = .returned (.tuple #[opV 1 A B V, .bool true]) ∧ Below w.heap.size w w' := by
  have HB : Hid (Below w.heap.size w (((w.alloc (.cells #[.int .i64 1, .int .i64 A, .int .i64 B, .int .u64 ((limb 0 V : Nat) : Int), .int .u64 ((limb 1 V : Nat) : Int), .int .u64 ((limb 2 V : Nat) : Int), .int .u64 ((limb 3 V : Nat) : Int)] 56)).alloc (.cells #[.int .i64 A] 180)).alloc (.cells #[.int .i64 A, .int .i64 B] 182))) := bAlloc (bAlloc (bAlloc (Below.refl _ _) _) _) _
  go_enter Tryz.func89, Tryz.ntmps89
  go_wp2
  go_ret2
  exact ⟨by simp [opV], HB.out⟩
set_option maxHeartbeats 4000000 in
theorem opOf_2 (A B : Int) (V : Nat) (w : World) : Calls Tryz.prog 89 #[.agg #[.int .i64 2, .int .i64 A, .int .i64 B, .int .u64 ((limb 0 V : Nat) : Int), .int .u64 ((limb 1 V : Nat) : Int), .int .u64 ((limb 2 V : Nat) : Int), .int .u64 ((limb 3 V : Nat) : Int)]] w fun e w' => e = .returned (.tuple #[opV 2 A B V, .bool true]) ∧ Below w.heap.size w w' := by
  have HB : Hid (Below w.heap.size w (((w.alloc (.cells #[.int .i64 2, .int .i64 A, .int .i64 B, .int .u64 ((limb 0 V : Nat) : Int), .int .u64 ((limb 1 V : Nat) : Int), .int .u64 ((limb 2 V : Nat) : Int), .int .u64 ((limb 3 V : Nat) : Int)] 56)).alloc (.cells #[.int .i64 A] 180)).alloc (.cells #[.int .i64 A, .int .i64 B] 182))) := bAlloc (bAlloc (bAlloc (Below.refl _ _) _) _) _
  go_enter Tryz.func89, Tryz.ntmps89
  go_wp2
  go_ret2
  exact ⟨by simp [opV], HB.out⟩
set_option maxHeartbeats 4000000 in
theorem opOf_3 (A B : Int) (V : Nat) (w : World) : Calls Tryz.prog 89 #[.agg #[.int .i64 3, .int .i64 A, .int .i64 B, .int .u64 ((limb 0 V : Nat) : Int), .int .u64 ((limb 1 V : Nat) : Int), .int .u64 ((limb 2 V : Nat) : Int), .int .u64 ((limb 3 V : Nat) : Int)]] w fun e w' => e = .returned (.tuple #[opV 3 A B V, .bool true]) ∧ Below w.heap.size w w' := by
  have HB : Hid (Below w.heap.size w (((w.alloc (.cells #[.int .i64 3, .int .i64 A, .int .i64 B, .int .u64 ((limb 0 V : Nat) : Int), .int .u64 ((limb 1 V : Nat) : Int), .int .u64 ((limb 2 V : Nat) : Int), .int .u64 ((limb 3 V : Nat) : Int)] 56)).alloc (.cells #[.int .i64 A] 180)).alloc (.cells #[.int .i64 A, .int .i64 B] 182))) := bAlloc (bAlloc (bAlloc (Below.refl _ _) _) _) _
  go_enter Tryz.func89, Tryz.ntmps89
  go_wp2
  go_ret2
  exact ⟨by simp [opV], HB.out⟩
set_option maxHeartbeats 4000000 in
theorem opOf_4 (A B : Int) (V : Nat) (w : World) : Calls Tryz.prog 89 #[.agg #[.int .i64 4, .int .i64 A, .int .i64 B, .int .u64 ((limb 0 V : Nat) : Int), .int .u64 ((limb 1 V : Nat) : Int), .int .u64 ((limb 2 V : Nat) : Int), .int .u64 ((limb 3 V : Nat) : Int)]] w fun e w' => e = .returned (.tuple #[opV 4 A B V, .bool true]) ∧ Below w.heap.size w w' := by
  have HB : Hid (Below w.heap.size w (((w.alloc (.cells #[.int .i64 4, .int .i64 A, .int .i64 B, .int .u64 ((limb 0 V : Nat) : Int), .int .u64 ((limb 1 V : Nat) : Int), .int .u64 ((limb 2 V : Nat) : Int), .int .u64 ((limb 3 V : Nat) : Int)] 56)).alloc (.cells #[.int .i64 A] 180)).alloc (.cells #[.int .i64 A, .int .i64 B] 182))) := bAlloc (bAlloc (bAlloc (Below.refl _ _) _) _) _
  go_enter Tryz.func89, Tryz.ntmps89
  go_wp2
  go_ret2
  exact ⟨by simp [opV], HB.out⟩
set_option maxHeartbeats 4000000 in
theorem opOf_5 (A B : Int) (V : Nat) (w : World) : Calls Tryz.prog 89 #[.agg #[.int .i64 5, .int .i64 A, .int .i64 B, .int .u64 ((limb 0 V : Nat) : Int), .int .u64 ((limb 1 V : Nat) : Int), .int .u64 ((limb 2 V : Nat) : Int), .int .u64 ((limb 3 V : Nat) : Int)]] w fun e w' => e = .returned (.tuple #[opV 5 A B V, .bool true]) ∧ Below w.heap.size w w' := by
  have HB : Hid (Below w.heap.size w (((w.alloc (.cells #[.int .i64 5, .int .i64 A, .int .i64 B, .int .u64 ((limb 0 V : Nat) : Int), .int .u64 ((limb 1 V : Nat) : Int), .int .u64 ((limb 2 V : Nat) : Int), .int .u64 ((limb 3 V : Nat) : Int)] 56)).alloc (.cells #[.int .i64 A] 180)).alloc (.cells #[.int .i64 A, .int .i64 B] 182))) := bAlloc (bAlloc (bAlloc (Below.refl _ _) _) _) _
  go_enter Tryz.func89, Tryz.ntmps89
  go_wp2
  go_ret2
  exact ⟨by simp [opV], HB.out⟩
set_option maxHeartbeats 4000000 in
theorem opOf_6 (A B : Int) (V : Nat) (w : World) : Calls Tryz.prog 89 #[.agg #[.int .i64 6, .int .i64 A, .int .i64 B, .int .u64 ((limb 0 V : Nat) : Int), .int .u64 ((limb 1 V : Nat) : Int), .int .u64 ((limb 2 V : Nat) : Int), .int .u64 ((limb 3 V : Nat) : Int)]] w fun e w' => e = .returned (.tuple #[opV 6 A B V, .bool true]) ∧ Below w.heap.size w w' := by
  have HB : Hid (Below w.heap.size w (((w.alloc (.cells #[.int .i64 6, .int .i64 A, .int .i64 B, .int .u64 ((limb 0 V : Nat) : Int), .int .u64 ((limb 1 V : Nat) : Int), .int .u64 ((limb 2 V : Nat) : Int), .int .u64 ((limb 3 V : Nat) : Int)] 56)).alloc (.cells #[.int .i64 A] 180)).alloc (.cells #[.int .i64 A, .int .i64 B] 182))) := bAlloc (bAlloc (bAlloc (Below.refl _ _) _) _) _
  go_enter Tryz.func89, Tryz.ntmps89
  go_wp2
  go_ret2
  exact ⟨by simp [opV], HB.out⟩
set_option maxHeartbeats 4000000 in
theorem opOf_7 (A B : Int) (V : Nat) (w : World) : Calls Tryz.prog 89 #[.agg #[.int .i64 7, .int .i64 A, .int .i64 B, .int .u64 ((limb 0 V : Nat) : Int), .int .u64 ((limb 1 V : Nat) : Int), .int .u64 ((limb 2 V : Nat) : Int), .int .u64 ((limb 3 V : Nat) : Int)]] w fun e w' => e = .returned (.tuple #[opV 7 A B V, .bool true]) ∧ Below w.heap.size w w' := by
  have HB : Hid (Below w.heap.size w (((w.alloc (.cells #[.int .i64 7, .int .i64 A, .int .i64 B, .int .u64 ((limb 0 V : Nat) : Int), .int .u64 ((limb 1 V : Nat) : Int), .int .u64 ((limb 2 V : Nat) : Int), .int .u64 ((limb 3 V : Nat) : Int)] 56)).alloc (.cells #[.int .i64 A] 180)).alloc (.cells #[.int .i64 A, .int .i64 B] 182))) := bAlloc (bAlloc (bAlloc (Below.refl _ _) _) _) _
  go_enter Tryz.func89, Tryz.ntmps89
  go_wp2
  go_ret2
  exact ⟨by simp [opV], HB.out⟩
set_option maxHeartbeats 4000000 in
theorem opOf_8 (A B : Int) (V : Nat) (w : World) : Calls Tryz.prog 89 #[.agg #[.int .i64 8, .int .i64 A, .int .i64 B, .int .u64 ((limb 0 V : Nat) : Int), .int .u64 ((limb 1 V : Nat) : Int), .int .u64 ((limb 2 V : Nat) : Int), .int .u64 ((limb 3 V : Nat) : Int)]] w fun e w' => e = .returned (.tuple #[opV 8 A B V, .bool true]) ∧ Below w.heap.size w w' := by
  have HB : Hid (Below w.heap.size w (((w.alloc (.cells #[.int .i64 8, .int .i64 A, .int .i64 B, .int .u64 ((limb 0 V : Nat) : Int), .int .u64 ((limb 1 V : Nat) : Int), .int .u64 ((limb 2 V : Nat) : Int), .int .u64 ((limb 3 V : Nat) : Int)] 56)).alloc (.cells #[.int .i64 A] 180)).alloc (.cells #[.int .i64 A, .int .i64 B] 182))) := bAlloc (bAlloc (bAlloc (Below.refl _ _) _) _) _
  go_enter Tryz.func89, Tryz.ntmps89
  go_wp2
  go_ret2
  exact ⟨by simp [opV], HB.out⟩
set_option maxHeartbeats 4000000 in
theorem opOf_none (O A B : Int) (V : Nat) (h : ¬ (1 ≤ O ∧ O ≤ 8)) (w : World) : Calls Tryz.prog 89 #[.agg #[.int .i64 O, .int .i64 A, .int .i64 B, .int .u64 ((limb 0 V : Nat) : Int), .int .u64 ((limb 1 V : Nat) : Int), .int .u64 ((limb 2 V : Nat) : Int), .int .u64 ((limb 3 V : Nat) : Int)]] w fun e w' => e = .returned (.tuple #[.nilIface, .bool false]) ∧ Below w.heap.size w w' := by
  have HB : Hid (Below w.heap.size w (((w.alloc (.cells #[.int .i64 O, .int .i64 A, .int .i64 B, .int .u64 ((limb 0 V : Nat) : Int), .int .u64 ((limb 1 V : Nat) : Int), .int .u64 ((limb 2 V : Nat) : Int), .int .u64 ((limb 3 V : Nat) : Int)] 56)).alloc (.cells #[.int .i64 A] 180)).alloc (.cells #[.int .i64 A, .int .i64 B] 182))) := bAlloc (bAlloc (bAlloc (Below.refl _ _) _) _) _
  have h1 : ¬ O = 1 := by omega
  have h2 : ¬ O = 2 := by omega
  have h3 : ¬ O = 3 := by omega
  have h4 : ¬ O = 4 := by omega
  have h5 : ¬ O = 5 := by omega
  have h6 : ¬ O = 6 := by omega
  have h7 : ¬ O = 7 := by omega
  have h8 : ¬ O = 8 := by omega
  clear h
  go_enter Tryz.func89, Tryz.ntmps89
  go_wp2
  go_ret2
  exact ⟨rfl, HB.out⟩
theorem opV_none (O A B : Int) (V : Nat) (h : ¬ (1 ≤ O ∧ O ≤ 8)) : opV O A B V = .nilIface := by
  unfold opV
  rw [if_neg (by omega), if_neg (by omega), if_neg (by omega), if_neg (by omega), if_neg (by omega), if_neg (by omega)]
theorem opOf_any (O A B : Int) (V : Nat) (w : World) : Calls Tryz.prog 89 #[.agg #[.int .i64 O, .int .i64 A, .int .i64 B, .int .u64 ((limb 0 V : Nat) : Int), .int .u64 ((limb 1 V : Nat) : Int), .int .u64 ((limb 2 V : Nat) : Int), .int .u64 ((limb 3 V : Nat) : Int)]] w fun e w' => e = .returned (.tuple #[opV O A B V, .bool (okO O)]) ∧ Below w.heap.size w w' := by
  by_cases h : 1 ≤ O ∧ O ≤ 8
  · rw [show okO O = true from decide_eq_true h]
    have hc : O = 1 ∨ O = 2 ∨ O = 3 ∨ O = 4 ∨ O = 5 ∨ O = 6 ∨ O = 7 ∨ O = 8 := by omega
    rcases hc with rfl | rfl | rfl | rfl | rfl | rfl | rfl | rfl
    · exact opOf_1 A B V w
    · exact opOf_2 A B V w
    · exact opOf_3 A B V w
    · exact opOf_4 A B V w
    · exact opOf_5 A B V w
    · exact opOf_6 A B V w
    · exact opOf_7 A B V w
    · exact opOf_8 A B V w
  · rw [show okO O = false from decide_eq_false h, opV_none O A B V h]
    exact opOf_none O A B V h w
end Go.Proofs.YtgldibfpidmfhaaGreatDoor

/- expr.uses, allAhead. -/
namespace Go.Proofs.YtgldibfpidmfhaaGreatDoor
open Go.RowKit
/-- v is a slice of n ints. -/
def Zs (w : World) (v : Value) (n : Nat) (f : Nat → Int) : Prop := Rs w v 1 n (fun i _ => .int .i64 (f i))
theorem Zs.below {w w' : World} {v : Value} {n : Nat} {f : Nat → Int} (h : Zs w v n f) (hb : Below w.heap.size w w') : Zs w' v n f := Rs.below h hb
/-- How many nodes an operation uses, and which. -/
def uN (O : Int) : Nat := if O = 5 ∨ O = 8 then 1 else if O = 6 ∨ O = 7 then 2 else 0
def uF (A B : Int) (i : Nat) : Int := if i = 0 then A else B
theorem one_Zs (w : World) (A B : Int) : Zs (w.alloc (.cells #[.int .i64 A] 3)) (.slice (some ⟨w.heap.size, 0, none⟩) 1 1) 1 (uF A B) := by
  refine BlkR.Rs (t := 3) ⟨#[.int .i64 A], ?_, rfl, ?_⟩ (by decide)
  · show (w.heap.push _)[w.heap.size]? = _
    simp
  · intro i hi j hj
    have hi' : i = 0 := by omega
    have hj' : j = 0 := by omega
    subst hi'; subst hj'
    rfl
theorem two_Zs (w : World) (A B : Int) : Zs (w.alloc (.cells #[.int .i64 A, .int .i64 B] 3)) (.slice (some ⟨w.heap.size, 0, none⟩) 2 2) 2 (uF A B) := by
  refine BlkR.Rs (t := 3) ⟨#[.int .i64 A, .int .i64 B], ?_, rfl, ?_⟩ (by decide)
  · show (w.heap.push _)[w.heap.size]? = _
    simp
  · intro i hi j hj
    have hi' : i = 0 ∨ i = 1 := by omega
    have hj' : j = 0 := by omega
    subst hj'
    rcases hi' with rfl | rfl <;> rfl
/-- Assertions to a struct: another dynamic type, or this one. -/
theorem as_other {t a xT : TypeId} {v z : Value} {d : TypeDesc} (w : World) (hu : Tryz.prog.underlying a = some d) (hd : (match d with | .interface _ => true | _ => false) = false) (hne : (t == a) = false) (hz : (Tryz.prog.info? a).map (·.zero) = some (some z)) :
    (Instr.typeAssert (.iface t v) xT a true).run Tryz.prog w = .ok (.tuple #[z, .bool false]) w := by
  obtain ⟨j, hj, hz⟩ := Option.map_eq_some_iff.mp hz
  cases d <;> simp_all [Instr.typeAssert, run_underlying hu, typeInfo, zeroValue, Sem.run_bind]
theorem as_same {t xT : TypeId} {v : Value} {d : TypeDesc} (w : World) (hu : Tryz.prog.underlying t = some d) (hd : (match d with | .interface _ => true | _ => false) = false) :
    (Instr.typeAssert (.iface t v) xT t true).run Tryz.prog w = .ok (.tuple #[v, .bool true]) w := by
  cases d <;> simp_all [Instr.typeAssert, run_underlying hu, typeInfo, zeroValue, Sem.run_bind]
theorem as_has {t xT asserted : TypeId} {v : Value} {want : Array (String × TypeId)} (w : World) (hu : Tryz.prog.underlying asserted = some (.interface want)) (h : (Tryz.prog.info? t).map (fun i => (lacking want i.methods).isEmpty) = some true) :
    (Instr.typeAssert (.iface t v) xT asserted false).run Tryz.prog w = .ok (.iface t v) w := by
  obtain ⟨i, hi, he⟩ := Option.map_eq_some_iff.mp h
  simp [Instr.typeAssert, run_underlying hu, typeInfo, hi, missingMethod_none (List.isEmpty_iff.mp he)]
set_option maxHeartbeats 8000000 in
set_option maxRecDepth 100000 in
theorem first_any (A : Int) (w : World) : Calls Tryz.prog 159 #[.agg #[.int .i64 A]] w fun e w' => e = .returned (.int .i64 A) ∧ Below w.heap.size w w' := by
  have HB : Hid (Below w.heap.size w (w.alloc (.cells #[.int .i64 A] 180))) := bAlloc (Below.refl _ _) _
  go_enter Tryz.func159, Tryz.ntmps159
  go_wp2
  go_ret
  exact ⟨rfl, HB.out⟩
set_option maxHeartbeats 8000000 in
set_option maxRecDepth 100000 in
theorem second_any (A B : Int) (w : World) : Calls Tryz.prog 160 #[.agg #[.int .i64 A, .int .i64 B]] w fun e w' => e = .returned (.int .i64 B) ∧ Below w.heap.size w w' := by
  have HB : Hid (Below w.heap.size w (w.alloc (.cells #[.int .i64 A, .int .i64 B] 182))) := bAlloc (Below.refl _ _) _
  go_enter Tryz.func160, Tryz.ntmps160
  go_wp2
  go_ret
  exact ⟨rfl, HB.out⟩
set_option maxHeartbeats 8000000 in
set_option maxRecDepth 100000 in
theorem uses_const (V : Nat) (w : World) : Calls Tryz.prog 112 #[.iface 184 (.agg #[.int .u64 ((limb 0 V : Nat) : Int), .int .u64 ((limb 1 V : Nat) : Int), .int .u64 ((limb 2 V : Nat) : Int), .int .u64 ((limb 3 V : Nat) : Int)])] w fun e w' => e = .returned (.slice none 0 0) ∧ Below w.heap.size w w' := by
  have fc : ∀ w, (Instr.typeAssert (.iface 184 (.agg #[.int .u64 ((limb 0 V : Nat) : Int), .int .u64 ((limb 1 V : Nat) : Int), .int .u64 ((limb 2 V : Nat) : Int), .int .u64 ((limb 3 V : Nat) : Int)])) 147 184 true).run Tryz.prog w = .ok (.tuple #[.agg #[.int .u64 ((limb 0 V : Nat) : Int), .int .u64 ((limb 1 V : Nat) : Int), .int .u64 ((limb 2 V : Nat) : Int), .int .u64 ((limb 3 V : Nat) : Int)], .bool true]) w := fun w => as_same w (d := .struct (Tryz.prog.fieldsOf 184)) (by kernel_rfl) rfl
  have fq : ∀ w, (Instr.typeAssert (.iface 184 (.agg #[.int .u64 ((limb 0 V : Nat) : Int), .int .u64 ((limb 1 V : Nat) : Int), .int .u64 ((limb 2 V : Nat) : Int), .int .u64 ((limb 3 V : Nat) : Int)])) 147 151 true).run Tryz.prog w = .ok (.tuple #[.agg #[.int .i64 0, .int .i64 0, .int .i64 0], .bool false]) w := fun w => as_other w (d := .struct (Tryz.prog.fieldsOf 151)) (by kernel_rfl) rfl (by decide) (by kernel_rfl)
  go_enter Tryz.func112, Tryz.ntmps112
  go_wp2
  go_ret
  exact ⟨rfl, Below.refl _ _⟩
set_option maxHeartbeats 8000000 in
set_option maxRecDepth 100000 in
theorem uses_query (O A B : Int) (w : World) : Calls Tryz.prog 112 #[.iface 151 (.agg #[.int .i64 O, .int .i64 A, .int .i64 B])] w fun e w' => e = .returned (.slice none 0 0) ∧ Below w.heap.size w w' := by
  have fc : ∀ w, (Instr.typeAssert (.iface 151 (.agg #[.int .i64 O, .int .i64 A, .int .i64 B])) 147 184 true).run Tryz.prog w = .ok (.tuple #[.agg #[.int .u64 0, .int .u64 0, .int .u64 0, .int .u64 0], .bool false]) w := fun w => as_other w (d := .struct (Tryz.prog.fieldsOf 184)) (by kernel_rfl) rfl (by decide) (by kernel_rfl)
  have fq : ∀ w, (Instr.typeAssert (.iface 151 (.agg #[.int .i64 O, .int .i64 A, .int .i64 B])) 147 151 true).run Tryz.prog w = .ok (.tuple #[.agg #[.int .i64 O, .int .i64 A, .int .i64 B], .bool true]) w := fun w => as_same w (d := .struct (Tryz.prog.fieldsOf 151)) (by kernel_rfl) rfl
  go_enter Tryz.func112, Tryz.ntmps112
  go_wp2
  go_ret
  exact ⟨rfl, Below.refl _ _⟩
set_option maxHeartbeats 8000000 in
set_option maxRecDepth 100000 in
theorem uses_neg (A : Int) (w : World) : Calls Tryz.prog 112 #[.iface 186 (.agg #[.int .i64 A])] w fun e w' => (∃ v, e = .returned v ∧ ∀ B, Zs w' v 1 (uF A B)) ∧ Below w.heap.size w w' := by
  have fc : ∀ w, (Instr.typeAssert (.iface 186 (.agg #[.int .i64 A])) 147 184 true).run Tryz.prog w = .ok (.tuple #[.agg #[.int .u64 0, .int .u64 0, .int .u64 0, .int .u64 0], .bool false]) w := fun w => as_other w (d := .struct (Tryz.prog.fieldsOf 184)) (by kernel_rfl) rfl (by decide) (by kernel_rfl)
  have fq : ∀ w, (Instr.typeAssert (.iface 186 (.agg #[.int .i64 A])) 147 151 true).run Tryz.prog w = .ok (.tuple #[.agg #[.int .i64 0, .int .i64 0, .int .i64 0], .bool false]) w := fun w => as_other w (d := .struct (Tryz.prog.fieldsOf 151)) (by kernel_rfl) rfl (by decide) (by kernel_rfl)
  have fu : ∀ w, (Instr.typeAssert (.iface 186 (.agg #[.int .i64 A])) 147 203 false).run Tryz.prog w = .ok (.iface 186 (.agg #[.int .i64 A])) w := fun w => as_has w Tryz.underlying203 (by kernel_rfl)
  have fp : ∀ w, (Instr.typeAssert (.iface 186 (.agg #[.int .i64 A])) 147 205 true).run Tryz.prog w = .ok (.tuple #[.nilIface, .bool false]) w := fun w => run_typeAssert_lacksB Tryz.underlying205 (by kernel_rfl) (by kernel_rfl) _ _ w
  have fm : ∀ w, (method 340 186 (.agg #[.int .i64 A]) "sigil/expr.first").run Tryz.prog w = .ok (159, .agg #[.int .i64 A]) w := fun w => by kernel_rfl
  go_enter Tryz.func112, Tryz.ntmps112
  go_wp2_with fail
  refine (first_any A w).mono ?_
  rintro e w1 ⟨rfl, hb1⟩
  have HB : Hid (Below w.heap.size w (w1.alloc (.cells #[.int .i64 A] 3))) := bStep hb1 (bAlloc (Below.refl _ _) _)
  have HZ : Hid (∀ B, Zs (w1.alloc (.cells #[.int .i64 A] 3)) (.slice (some ⟨w1.heap.size, 0, none⟩) 1 1) 1 (uF A B)) := fun B => one_Zs w1 A B
  go_wp2
  go_ret
  exact ⟨⟨_, rfl, HZ.out⟩, HB.out⟩
set_option maxHeartbeats 8000000 in
set_option maxRecDepth 100000 in
theorem uses_mul (A : Int) (V : Nat) (w : World) : Calls Tryz.prog 112 #[.iface 191 (.agg #[.int .i64 A, .int .u64 ((limb 0 V : Nat) : Int), .int .u64 ((limb 1 V : Nat) : Int), .int .u64 ((limb 2 V : Nat) : Int), .int .u64 ((limb 3 V : Nat) : Int)])] w fun e w' => (∃ v, e = .returned v ∧ ∀ B, Zs w' v 1 (uF A B)) ∧ Below w.heap.size w w' := by
  have fc : ∀ w, (Instr.typeAssert (.iface 191 (.agg #[.int .i64 A, .int .u64 ((limb 0 V : Nat) : Int), .int .u64 ((limb 1 V : Nat) : Int), .int .u64 ((limb 2 V : Nat) : Int), .int .u64 ((limb 3 V : Nat) : Int)])) 147 184 true).run Tryz.prog w = .ok (.tuple #[.agg #[.int .u64 0, .int .u64 0, .int .u64 0, .int .u64 0], .bool false]) w := fun w => as_other w (d := .struct (Tryz.prog.fieldsOf 184)) (by kernel_rfl) rfl (by decide) (by kernel_rfl)
  have fq : ∀ w, (Instr.typeAssert (.iface 191 (.agg #[.int .i64 A, .int .u64 ((limb 0 V : Nat) : Int), .int .u64 ((limb 1 V : Nat) : Int), .int .u64 ((limb 2 V : Nat) : Int), .int .u64 ((limb 3 V : Nat) : Int)])) 147 151 true).run Tryz.prog w = .ok (.tuple #[.agg #[.int .i64 0, .int .i64 0, .int .i64 0], .bool false]) w := fun w => as_other w (d := .struct (Tryz.prog.fieldsOf 151)) (by kernel_rfl) rfl (by decide) (by kernel_rfl)
  have fu : ∀ w, (Instr.typeAssert (.iface 191 (.agg #[.int .i64 A, .int .u64 ((limb 0 V : Nat) : Int), .int .u64 ((limb 1 V : Nat) : Int), .int .u64 ((limb 2 V : Nat) : Int), .int .u64 ((limb 3 V : Nat) : Int)])) 147 203 false).run Tryz.prog w = .ok (.iface 191 (.agg #[.int .i64 A, .int .u64 ((limb 0 V : Nat) : Int), .int .u64 ((limb 1 V : Nat) : Int), .int .u64 ((limb 2 V : Nat) : Int), .int .u64 ((limb 3 V : Nat) : Int)])) w := fun w => as_has w Tryz.underlying203 (by kernel_rfl)
  have fp : ∀ w, (Instr.typeAssert (.iface 191 (.agg #[.int .i64 A, .int .u64 ((limb 0 V : Nat) : Int), .int .u64 ((limb 1 V : Nat) : Int), .int .u64 ((limb 2 V : Nat) : Int), .int .u64 ((limb 3 V : Nat) : Int)])) 147 205 true).run Tryz.prog w = .ok (.tuple #[.nilIface, .bool false]) w := fun w => run_typeAssert_lacksB Tryz.underlying205 (by kernel_rfl) (by kernel_rfl) _ _ w
  have fm : ∀ w, (method 340 191 (.agg #[.int .i64 A, .int .u64 ((limb 0 V : Nat) : Int), .int .u64 ((limb 1 V : Nat) : Int), .int .u64 ((limb 2 V : Nat) : Int), .int .u64 ((limb 3 V : Nat) : Int)]) "sigil/expr.first").run Tryz.prog w = .ok (159, .agg #[.int .i64 A]) w := fun w => by kernel_rfl
  go_enter Tryz.func112, Tryz.ntmps112
  go_wp2_with fail
  refine (first_any A w).mono ?_
  rintro e w1 ⟨rfl, hb1⟩
  have HB : Hid (Below w.heap.size w (w1.alloc (.cells #[.int .i64 A] 3))) := bStep hb1 (bAlloc (Below.refl _ _) _)
  have HZ : Hid (∀ B, Zs (w1.alloc (.cells #[.int .i64 A] 3)) (.slice (some ⟨w1.heap.size, 0, none⟩) 1 1) 1 (uF A B)) := fun B => one_Zs w1 A B
  go_wp2
  go_ret
  exact ⟨⟨_, rfl, HZ.out⟩, HB.out⟩
set_option maxHeartbeats 8000000 in
set_option maxRecDepth 100000 in
theorem uses_sum (A B : Int) (w : World) : Calls Tryz.prog 112 #[.iface 188 (.agg #[.int .i64 A, .int .i64 B])] w fun e w' => (∃ v, e = .returned v ∧ Zs w' v 2 (uF A B)) ∧ Below w.heap.size w w' := by
  have fc : ∀ w, (Instr.typeAssert (.iface 188 (.agg #[.int .i64 A, .int .i64 B])) 147 184 true).run Tryz.prog w = .ok (.tuple #[.agg #[.int .u64 0, .int .u64 0, .int .u64 0, .int .u64 0], .bool false]) w := fun w => as_other w (d := .struct (Tryz.prog.fieldsOf 184)) (by kernel_rfl) rfl (by decide) (by kernel_rfl)
  have fq : ∀ w, (Instr.typeAssert (.iface 188 (.agg #[.int .i64 A, .int .i64 B])) 147 151 true).run Tryz.prog w = .ok (.tuple #[.agg #[.int .i64 0, .int .i64 0, .int .i64 0], .bool false]) w := fun w => as_other w (d := .struct (Tryz.prog.fieldsOf 151)) (by kernel_rfl) rfl (by decide) (by kernel_rfl)
  have fu : ∀ w, (Instr.typeAssert (.iface 188 (.agg #[.int .i64 A, .int .i64 B])) 147 203 false).run Tryz.prog w = .ok (.iface 188 (.agg #[.int .i64 A, .int .i64 B])) w := fun w => as_has w Tryz.underlying203 (by kernel_rfl)
  have fp : ∀ w, (Instr.typeAssert (.iface 188 (.agg #[.int .i64 A, .int .i64 B])) 147 205 true).run Tryz.prog w = .ok (.tuple #[.iface 188 (.agg #[.int .i64 A, .int .i64 B]), .bool true]) w := fun w => run_typeAssert_hasB Tryz.underlying205 (by kernel_rfl) _ _ w
  have fm : ∀ w, (method 340 188 (.agg #[.int .i64 A, .int .i64 B]) "sigil/expr.first").run Tryz.prog w = .ok (159, .agg #[.int .i64 A]) w := fun w => by kernel_rfl
  have fs : ∀ w, (method 340 188 (.agg #[.int .i64 A, .int .i64 B]) "sigil/expr.second").run Tryz.prog w = .ok (160, .agg #[.int .i64 A, .int .i64 B]) w := fun w => by kernel_rfl
  go_enter Tryz.func112, Tryz.ntmps112
  go_wp2_with fail
  refine (first_any A w).mono ?_
  rintro e w1 ⟨rfl, hb1⟩
  go_wp2_with fail
  refine (second_any A B w1).mono ?_
  rintro e w2 ⟨rfl, hb2⟩
  have HB : Hid (Below w.heap.size w (w2.alloc (.cells #[.int .i64 A, .int .i64 B] 3))) := bStep (bStep hb1 hb2) (bAlloc (Below.refl _ _) _)
  have HZ : Hid (Zs (w2.alloc (.cells #[.int .i64 A, .int .i64 B] 3)) (.slice (some ⟨w2.heap.size, 0, none⟩) 2 2) 2 (uF A B)) := two_Zs w2 A B
  go_wp2
  go_ret
  exact ⟨⟨_, rfl, HZ.out⟩, HB.out⟩
set_option maxHeartbeats 8000000 in
set_option maxRecDepth 100000 in
theorem uses_prod (A B : Int) (w : World) : Calls Tryz.prog 112 #[.iface 189 (.agg #[.int .i64 A, .int .i64 B])] w fun e w' => (∃ v, e = .returned v ∧ Zs w' v 2 (uF A B)) ∧ Below w.heap.size w w' := by
  have fc : ∀ w, (Instr.typeAssert (.iface 189 (.agg #[.int .i64 A, .int .i64 B])) 147 184 true).run Tryz.prog w = .ok (.tuple #[.agg #[.int .u64 0, .int .u64 0, .int .u64 0, .int .u64 0], .bool false]) w := fun w => as_other w (d := .struct (Tryz.prog.fieldsOf 184)) (by kernel_rfl) rfl (by decide) (by kernel_rfl)
  have fq : ∀ w, (Instr.typeAssert (.iface 189 (.agg #[.int .i64 A, .int .i64 B])) 147 151 true).run Tryz.prog w = .ok (.tuple #[.agg #[.int .i64 0, .int .i64 0, .int .i64 0], .bool false]) w := fun w => as_other w (d := .struct (Tryz.prog.fieldsOf 151)) (by kernel_rfl) rfl (by decide) (by kernel_rfl)
  have fu : ∀ w, (Instr.typeAssert (.iface 189 (.agg #[.int .i64 A, .int .i64 B])) 147 203 false).run Tryz.prog w = .ok (.iface 189 (.agg #[.int .i64 A, .int .i64 B])) w := fun w => as_has w Tryz.underlying203 (by kernel_rfl)
  have fp : ∀ w, (Instr.typeAssert (.iface 189 (.agg #[.int .i64 A, .int .i64 B])) 147 205 true).run Tryz.prog w = .ok (.tuple #[.iface 189 (.agg #[.int .i64 A, .int .i64 B]), .bool true]) w := fun w => run_typeAssert_hasB Tryz.underlying205 (by kernel_rfl) _ _ w
  have fm : ∀ w, (method 340 189 (.agg #[.int .i64 A, .int .i64 B]) "sigil/expr.first").run Tryz.prog w = .ok (159, .agg #[.int .i64 A]) w := fun w => by kernel_rfl
  have fs : ∀ w, (method 340 189 (.agg #[.int .i64 A, .int .i64 B]) "sigil/expr.second").run Tryz.prog w = .ok (160, .agg #[.int .i64 A, .int .i64 B]) w := fun w => by kernel_rfl
  go_enter Tryz.func112, Tryz.ntmps112
  go_wp2_with fail
  refine (first_any A w).mono ?_
  rintro e w1 ⟨rfl, hb1⟩
  go_wp2_with fail
  refine (second_any A B w1).mono ?_
  rintro e w2 ⟨rfl, hb2⟩
  have HB : Hid (Below w.heap.size w (w2.alloc (.cells #[.int .i64 A, .int .i64 B] 3))) := bStep (bStep hb1 hb2) (bAlloc (Below.refl _ _) _)
  have HZ : Hid (Zs (w2.alloc (.cells #[.int .i64 A, .int .i64 B] 3)) (.slice (some ⟨w2.heap.size, 0, none⟩) 2 2) 2 (uF A B)) := two_Zs w2 A B
  go_wp2
  go_ret
  exact ⟨⟨_, rfl, HZ.out⟩, HB.out⟩
/-- uses of any operation. -/
theorem uses_any (O A B : Int) (V : Nat) (h : 1 ≤ O ∧ O ≤ 8) (w : World) : Calls Tryz.prog 112 #[opV O A B V] w fun e w' => (∃ v, e = .returned v ∧ Zs w' v (uN O) (uF A B)) ∧ Below w.heap.size w w' := by
  have hc : O = 1 ∨ O = 2 ∨ O = 3 ∨ O = 4 ∨ O = 5 ∨ O = 6 ∨ O = 7 ∨ O = 8 := by omega
  rcases hc with rfl | rfl | rfl | rfl | rfl | rfl | rfl | rfl
  · refine (uses_const V w).mono ?_
    rintro e w' ⟨rfl, hb⟩
    exact ⟨⟨_, rfl, Or.inl ⟨rfl, rfl⟩⟩, hb⟩
  · refine (uses_query 2 A B w).mono ?_
    rintro e w' ⟨rfl, hb⟩
    exact ⟨⟨_, rfl, Or.inl ⟨rfl, rfl⟩⟩, hb⟩
  · refine (uses_query 3 A B w).mono ?_
    rintro e w' ⟨rfl, hb⟩
    exact ⟨⟨_, rfl, Or.inl ⟨rfl, rfl⟩⟩, hb⟩
  · refine (uses_query 4 A B w).mono ?_
    rintro e w' ⟨rfl, hb⟩
    exact ⟨⟨_, rfl, Or.inl ⟨rfl, rfl⟩⟩, hb⟩
  · refine (uses_neg A w).mono ?_
    rintro e w' ⟨⟨v, rfl, hz⟩, hb⟩
    exact ⟨⟨_, rfl, hz B⟩, hb⟩
  · exact uses_sum A B w
  · exact uses_prod A B w
  · refine (uses_mul A V w).mono ?_
    rintro e w' ⟨⟨v, rfl, hz⟩, hb⟩
    exact ⟨⟨_, rfl, hz B⟩, hb⟩
/-- Do n places lie ahead of one? -/
def ahB (n : Nat) (f : Nat → Int) (one : Int) : Bool := decide (∀ i, i < n → 0 ≤ f i ∧ f i < one)
set_option maxHeartbeats 8000000 in
set_option maxRecDepth 100000 in
theorem ahead_any (n : Nat) (v : Value) (f : Nat → Int) (one : Int) (hn : n ≤ 1000000) (w : World) (hv : Zs w v n f) :
    Calls Tryz.prog 111 #[v, .int .i64 one] w fun e w' => e = .returned (.bool (ahB n f one)) ∧ w' = w := by
  obtain ⟨oa, cn, rfl⟩ := Rs.shape hv
  have HV : Hid (Zs w (.slice oa n cn) n f) := hv
  obtain ⟨bA, ebA⟩ : ∃ b, b = ahB n f one := ⟨_, rfl⟩
  rw [← ebA]
  have HBA : Hid (bA = ahB n f one) := ebA
  clear hv ebA
  go_enter Tryz.func111, Tryz.ntmps111
  go_wp2
  go_loop [9] (fun iv => ∃ k : Nat, iv = .int .i64 (k : Int) ∧ k ≤ n ∧ Hid (∀ i, i < k → 0 ≤ f i ∧ f i < one)) (fun iv => n - (intOf iv).toNat)
  case atStart => exact ⟨0, rfl, Nat.zero_le _, fun i hi => by omega⟩
  case round =>
    obtain ⟨k, rfl, hk, HALL⟩ := hrel
    by_cases hlt : k < n
    · have hki : (k : Int) < (n : Int) := by omega
      have hk0 : (0 : Int) ≤ (k : Int) := by omega
      rcases HV.out with ⟨_, h0⟩ | ⟨ab, ao, c', hv, _, _, lab, hcell⟩
      · omega
      cases hv
      have a0 := hcell k hlt 0 (by decide)
      dsimp only at a0
      rw [Nat.add_zero, Nat.mul_one] at a0
      obtain ⟨y, ey⟩ : ∃ y, y = f k := ⟨_, rfl⟩
      rw [← ey] at a0
      have HY : Hid (y = f k) := ey
      clear hcell ey lab
      by_cases h0 : y < 0
      · have HF : Hid (bA = false) := HBA.out.trans (decide_eq_false (fun a => by have := (a k hlt).1; have := HY.out; omega))
        go_wp2
        go_ret
        exact ⟨by rw [HF.out]; rfl, rfl⟩
      · by_cases h1 : one ≤ y
        · have HF : Hid (bA = false) := HBA.out.trans (decide_eq_false (fun a => by have := (a k hlt).2; have := HY.out; omega))
          go_wp2
          go_ret
          exact ⟨by rw [HF.out]; rfl, rfl⟩
        · have HN : Hid (∀ i, i < k + 1 → 0 ≤ f i ∧ f i < one) := fun i hi => by
            rcases Nat.lt_or_ge i k with h | h
            · exact HALL.out i h
            · rw [show i = k by omega, ← HY.out]; exact ⟨by omega, by omega⟩
          go_wp2
          go_round
          case measure => simp [intOf]; omega
          case rel => exact ⟨k + 1, by go_num, by omega, HN⟩
    · have hki : ¬ (k : Int) < (n : Int) := by omega
      have HT : Hid (bA = true) := HBA.out.trans (decide_eq_true (fun i hi => HALL.out i (by omega)))
      go_wp2
      go_ret
      exact ⟨by rw [HT.out]; rfl, rfl⟩
end Go.Proofs.YtgldibfpidmfhaaGreatDoor

/- expr.ordered. -/
namespace Go.Proofs.YtgldibfpidmfhaaGreatDoor
open Go.RowKit
/-- A node's cells: Op, A, B, V. -/
def nC (T : Int × Int × Int × Nat) (j : Nat) : Value :=
  if j = 0 then .int .i64 T.1 else if j = 1 then .int .i64 T.2.1 else if j = 2 then .int .i64 T.2.2.1 else .int .u64 ((limb (j - 3) T.2.2.2 : Nat) : Int)
theorem nC_cells (O A B : Int) (V : Nat) : nC (O, A, B, V) 0 = .int .i64 O ∧ nC (O, A, B, V) 1 = .int .i64 A ∧ nC (O, A, B, V) 2 = .int .i64 B ∧ nC (O, A, B, V) 3 = .int .u64 ((limb 0 V : Nat) : Int) ∧ nC (O, A, B, V) 4 = .int .u64 ((limb 1 V : Nat) : Int) ∧ nC (O, A, B, V) 5 = .int .u64 ((limb 2 V : Nat) : Int) ∧ nC (O, A, B, V) 6 = .int .u64 ((limb 3 V : Nat) : Int) := by
  simp [nC]
/-- What the node T does, as a value. -/
def opT (T : Int × Int × Int × Nat) : Value := opV T.1 T.2.1 T.2.2.1 T.2.2.2
/-- Is there such an operation, and do the nodes that it uses lie ahead of i? -/
def okN (T : Int × Int × Int × Nat) (i : Nat) : Bool := okO T.1 && ahB (uN T.1) (uF T.2.1 T.2.2.1) (i : Int)
def ordB (n : Nat) (T : Nat → Int × Int × Int × Nat) : Bool := decide (∀ i, i < n → okN (T i) i = true)
theorem opV_iface (O A B : Int) (V : Nat) (h : 1 ≤ O ∧ O ≤ 8) : ∃ ty pv, opV O A B V = .iface ty pv := by
  have hc : O = 1 ∨ O = 2 ∨ O = 3 ∨ O = 4 ∨ O = 5 ∨ O = 6 ∨ O = 7 ∨ O = 8 := by omega
  rcases hc with rfl | rfl | rfl | rfl | rfl | rfl | rfl | rfl <;> exact ⟨_, _, rfl⟩
theorem own_blkR {w : World} {base g n s : Nat} {t : TypeId} {xs : List Value} {F : Nat → Nat → Value} (h : w.ownsRow base t s (.slice (some ⟨g, 0, none⟩) n n) n xs) (hf : ∀ i, i < n → ∀ j, j < s → xs[i * s + j]? = some (F i j)) : BlkR w t g s n F ∧ base ≤ g := by
  obtain ⟨hl, h⟩ := h
  rcases h with ⟨h0, h1⟩ | ⟨g', c, cur, h1, hb, hg, hc, _, hs, ht⟩
  · cases h0
  · cases h1
    refine ⟨⟨cur, hg, hs, ?_⟩, hb⟩
    intro i hi j hj
    have hl2 := row_lt hi hj
    rw [← hf i hi j hj, ← ht, List.getElem?_take_of_lt (by omega), Array.getElem?_toList]
theorem made_nil (n i j : Nat) (hi : i < n) (hj : j < 1) : (madeCells #[.nilIface] n).toList[i * 1 + j]? = some .nilIface := by
  rw [Array.getElem?_toList]
  unfold madeCells
  rw [Array.getElem?_map, Array.getElem?_range, if_pos (by omega)]
  show some _ = _
  dsimp only
  rw [show (#[.nilIface] : Array Value).size = 1 from rfl, show (i * 1 + j) % 1 = 0 from by omega]
  rfl
theorem opInfo : ∃ i : TypeInfo, Tryz.prog.info? 147 = some i ∧ i.zero = some .nilIface ∧ i.size = 1 ∧ i.bytes = 16 := by
  have h : (Tryz.prog.info? 147).map (fun i => (i.zero, i.size, i.bytes)) = some (some .nilIface, 1, 16) := by kernel_rfl
  obtain ⟨i, hi, he⟩ := Option.map_eq_some_iff.mp h
  simp only [Prod.mk.injEq] at he
  exact ⟨i, hi, he.1, he.2.1, he.2.2⟩
set_option maxHeartbeats 16000000 in
set_option maxRecDepth 100000 in
theorem ordered_any (n cn : Nat) (oa : Option Addr) (T : Nat → Int × Int × Int × Nat) (hn : n ≤ 1000000) (w : World) (hv : Rs w (.slice oa n cn) 7 n (fun i => nC (T i))) :
    Calls Tryz.prog 91 #[.slice oa n cn] w fun e w' => ((ordB n T = true ∧ ∃ L, e = .returned (.tuple #[.slice (some ⟨L, 0, none⟩) n n, .bool true]) ∧ w.heap.size ≤ L ∧ BlkR w' 147 L 1 n (fun i _ => opT (T i))) ∨ (ordB n T = false ∧ e = .returned (.tuple #[.slice none 0 0, .bool false]))) ∧ Below w.heap.size w w' := by
  obtain ⟨i0, hi, hz0, hz1, hz2⟩ := opInfo
  have HI := (show Hid _ from hi); have HZ := (show Hid _ from And.intro hz0 (And.intro hz1 hz2)); clear hi hz0 hz1 hz2
  have HR : Hid (Rs w (.slice oa n cn) 7 n (fun i => nC (T i))) := hv
  clear hv
  go_enter Tryz.func91, Tryz.ntmps91
  go_wp2_with (first
    | (at_make; refine wpList_make_full _ rfl _ _ 154 rfl w.heap.size 147 i0 .nilIface 1 Tryz.underlying154 HI.out HZ.out.1 HZ.out.2.1 .i64 .i64 n n n rfl rfl rfl rfl ?c1 ?c2 (Nat.le_refl _) ?_)
    | go_in)
  case c1 => rw [HZ.out.2.2]; omega
  case c2 => unfold maxLen; omega
  intro w3 hown hgrow
  obtain ⟨G, eG⟩ : ∃ G, G = w.heap.size := ⟨_, rfl⟩
  have lG : w.heap.size ≤ G := by omega
  rw [← eG] at hown ⊢
  have bo3 : BlkR w3 147 G 1 n (fun _ _ => .nilIface) := (own_blkR (F := fun _ _ => .nilIface) hown (fun i hi j hj => made_nil n i j hi hj)).1
  have hbe : Below w.heap.size w w3 := (Below.refl _ w).grown hgrow (Nat.le_refl _) (fun j hj => by cases hj)
  clear hown hgrow eG
  go_wp2
  go_loopw [14] (fun iv wr => ∃ k : Nat, iv = .int .i64 (k : Int) ∧ k ≤ n ∧ Below w.heap.size w wr ∧ BlkR wr 147 G 1 n (fun i _ => if i < k then opT (T i) else .nilIface) ∧ Hid (∀ i, i < k → okN (T i) i = true)) (fun iv _ => n - (intOf iv).toNat)
  case atStart => exact ⟨0, rfl, Nat.zero_le _, hbe, bo3.congr (fun i _ j _ => by rw [if_neg (by omega)]), fun i hi => by omega⟩
  case round =>
    obtain ⟨k, rfl, hk, hbr, bo, HALL⟩ := hrel
    clear bo3 hbe
    by_cases hlt : k < n
    · have hki : (k : Int) < (n : Int) := by omega
      have hk0 : (0 : Int) ≤ (k : Int) := by omega
      rcases HR.out with ⟨_, h0⟩ | ⟨ab, ao, c', hv, _, _, lab, hcell⟩
      · omega
      cases hv
      have HAB : Hid (ab < w.heap.size) := lab
      have HCL : Hid (∀ i, i < n → ∀ j, j < 7 → w.cell? ⟨ab, ao + i * 7 + j, none⟩ = some (nC (T i) j)) := hcell
      clear lab hcell
      have hTE : ∃ O A B V, T k = (O, A, B, V) := ⟨_, _, _, _, rfl⟩
      obtain ⟨O, A, B, V, hE⟩ := hTE
      have ca : ∀ j, j < 7 → wr.cell? ⟨ab, ao + k * 7 + j, none⟩ = some (nC (T k) j) := fun j hj => by rw [hbr.cell (p := ⟨ab, ao + k * 7 + j, none⟩) HAB.out]; exact HCL.out k hlt j hj
      rw [hE] at ca
      have HE : Hid (T k = (O, A, B, V)) := hE
      obtain ⟨t0, t1, t2, t3, t4, t5, t6⟩ := nC_cells O A B V
      have a0 := ca 0 (by decide); have a1 := ca 1 (by decide); have a2 := ca 2 (by decide); have a3 := ca 3 (by decide); have a4 := ca 4 (by decide); have a5 := ca 5 (by decide); have a6 := ca 6 (by decide)
      rw [t0] at a0; rw [t1] at a1; rw [t2] at a2; rw [t3] at a3; rw [t4] at a4; rw [t5] at a5; rw [t6] at a6
      rw [Nat.add_zero] at a0
      clear ca t0 t1 t2 t3 t4 t5 t6 hE
      have hbe : Below wr.heap.size wr (wr.alloc (.cells #[.int .i64 O, .int .i64 A, .int .i64 B, .int .u64 ((limb 0 V : Nat) : Int), .int .u64 ((limb 1 V : Nat) : Int), .int .u64 ((limb 2 V : Nat) : Int), .int .u64 ((limb 3 V : Nat) : Int)] 56)) := bAlloc (Below.refl _ _) _
      go_upto_region 5 with fail
      obtain ⟨N6, e6⟩ : ∃ N, N = wr.heap.size := ⟨_, rfl⟩
      obtain ⟨w1, hw1⟩ : ∃ z : World, z = wr.alloc (.cells #[.int .i64 O, .int .i64 A, .int .i64 B, .int .u64 ((limb 0 V : Nat) : Int), .int .u64 ((limb 1 V : Nat) : Int), .int .u64 ((limb 2 V : Nat) : Int), .int .u64 ((limb 3 V : Nat) : Int)] 56) := ⟨_, rfl⟩
      rw [← hw1] at hbe
      have hq1 : w1.heap[N6]? = some (.cells #[.int .i64 O, .int .i64 A, .int .i64 B, .int .u64 ((limb 0 V : Nat) : Int), .int .u64 ((limb 1 V : Nat) : Int), .int .u64 ((limb 2 V : Nat) : Int), .int .u64 ((limb 3 V : Nat) : Int)] 56) := by rw [hw1, e6]; show (wr.heap.push _)[wr.heap.size]? = _; simp
      rw [← hw1, ← e6]
      clear hw1 e6 a0 a1 a2 a3 a4 a5 a6
      have c0 : w1.cell? ⟨N6, 0, none⟩ = some (.int .i64 O) := by simp [World.cell?, hq1]
      have c1 : w1.cell? ⟨N6, 1, none⟩ = some (.int .i64 A) := by simp [World.cell?, hq1]
      have c2 : w1.cell? ⟨N6, 2, none⟩ = some (.int .i64 B) := by simp [World.cell?, hq1]
      have c3 : w1.cell? ⟨N6, 3, none⟩ = some (.int .u64 ((limb 0 V : Nat) : Int)) := by simp [World.cell?, hq1]
      have c4 : w1.cell? ⟨N6, 4, none⟩ = some (.int .u64 ((limb 1 V : Nat) : Int)) := by simp [World.cell?, hq1]
      have c5 : w1.cell? ⟨N6, 5, none⟩ = some (.int .u64 ((limb 2 V : Nat) : Int)) := by simp [World.cell?, hq1]
      have c6 : w1.cell? ⟨N6, 6, none⟩ = some (.int .u64 ((limb 3 V : Nat) : Int)) := by simp [World.cell?, hq1]
      have hbr1 := bStep hbr hbe; have bo1 := bo.belowAll hbe
      clear hq1 hbr bo hbe
      go_wp2_with fail
      refine (opOf_any O A B V w1).mono ?_
      rintro e w2 ⟨rfl, hb2⟩
      have hbr2 := bStep hbr1 hb2; have bo2 := bo1.belowAll hb2
      clear c0 c1 c2 c3 c4 c5 c6 hb2 hbr1 bo1
      obtain ⟨ov, eov⟩ : ∃ ov, ov = opV O A B V := ⟨_, rfl⟩
      rw [← eov]
      have HOV : Hid (ov = opV O A B V) := eov
      clear eov
      by_cases hO : 1 ≤ O ∧ O ≤ 8
      · have HU : Hid (∀ w, Calls Tryz.prog 112 #[ov] w fun e w' => (∃ v, e = .returned v ∧ Zs w' v (uN O) (uF A B)) ∧ Below w.heap.size w w') := fun w => by rw [HOV.out]; exact uses_any O A B V hO w
        rw [show okO O = true from decide_eq_true hO]
        have HOK : Hid (okO O = true) := decide_eq_true hO
        obtain ⟨ty, pv, eif⟩ : ∃ ty pv, ov = .iface ty pv := by rw [HOV.out]; exact opV_iface O A B V hO
        subst eif
        clear hO
        go_wp2_with fail
        refine (HU.out w2).mono ?_
        rintro e w4 ⟨⟨uv, rfl, hz⟩, hb4⟩
        have hbr4 := bStep hbr2 hb4; have bo4 := bo2.belowAll hb4
        have hu2 : uN O ≤ 1000000 := by unfold uN; split; decide; split <;> decide
        obtain ⟨bA, ebA⟩ : ∃ b, b = ahB (uN O) (uF A B) (k : Int) := ⟨_, rfl⟩
        have HAH : Hid (Calls Tryz.prog 111 #[uv, .int .i64 (k : Int)] w4 fun e w' => e = .returned (.bool bA) ∧ w' = w4) := by
          rw [ebA]
          exact ahead_any (uN O) uv (uF A B) (k : Int) hu2 w4 hz
        have HKN : Hid (okN (T k) k = bA) := by
          show okN (T k) k = bA
          unfold okN
          rw [HE.out, ebA]
          show (okO O && _) = _
          rw [HOK.out]
          rfl
        clear hz hb4 hbr2 bo2 hu2 ebA HU
        go_wp2_with fail
        refine HAH.out.mono ?_
        rintro e w5 ⟨rfl, hw5⟩
        obtain rfl := hw5.symm
        clear HAH
        cases bA
        · have HF : Hid (ordB n T = false) := decide_eq_false (fun a => by have h := a k hlt; rw [HKN.out] at h; cases h)
          clear bo4
          go_wp2
          go_ret2
          exact ⟨Or.inr ⟨HF.out, rfl⟩, hbr4⟩
        · have HN : Hid (∀ i, i < k + 1 → okN (T i) i = true) := fun i hi => by
            rcases Nat.lt_or_ge i k with h | h
            · exact HALL.out i h
            · rw [show i = k by omega]; exact HKN.out
          have cG := bo4.cell k hlt 0 (by decide)
          have fG := bo4.frozen
          have boN := bo4.set k 0 k hlt (by decide) (by omega) (.iface ty pv)
          have boF : BlkR (w4.setCell ⟨G, k, none⟩ (.iface ty pv)) 147 G 1 n (fun i _ => if i < k + 1 then opT (T i) else .nilIface) := boN.congr (fun i _ j hj => by
            have hj0 : j = 0 := by omega
            subst hj0
            by_cases h1 : i = k
            · subst h1
              rw [if_pos (show i < i + 1 by omega), if_pos ⟨rfl, rfl⟩, HOV.out]
              unfold opT
              rw [HE.out]
            · have e1 : (if i = k ∧ 0 = 0 then (Value.iface ty pv) else (if i < k then opT (T i) else .nilIface)) = (if i < k then opT (T i) else .nilIface) := if_neg (fun h => h1 h.1)
              rw [e1]
              by_cases h2 : i < k
              · rw [if_pos h2, if_pos (show i < k + 1 by omega)]
              · rw [if_neg h2, if_neg (show ¬ i < k + 1 by omega)])
          have hbF : Below w.heap.size w (w4.setCell ⟨G, k, none⟩ (.iface ty pv)) := hbr4.setCell lG (.iface ty pv)
          rw [Nat.mul_one, Nat.add_zero] at cG
          have HB5 : Hid (BlkR (w4.setCell ⟨G, k, none⟩ (.iface ty pv)) 147 G 1 n (fun i _ => if i < k + 1 then opT (T i) else .nilIface)) := boF
          clear boN boF bo4 hbr4
          go_wp2
          go_roundw
          case measure => simp [intOf]; omega
          case rel => exact ⟨k + 1, by go_num, by omega, hbF, HB5.out, HN⟩
      · rw [show okO O = false from decide_eq_false hO]
        have HF : Hid (ordB n T = false) := decide_eq_false (fun a => by
          have h := a k hlt
          unfold okN at h
          rw [HE.out] at h
          have h2 : okO O = false := decide_eq_false hO
          rw [show ((O, A, B, V) : Int × Int × Int × Nat).1 = O from rfl, h2] at h
          cases h)
        clear bo2 hO
        go_wp2
        go_ret2
        exact ⟨Or.inr ⟨HF.out, rfl⟩, hbr2⟩
    · have hki : ¬ (k : Int) < (n : Int) := by omega
      have ek : k = n := by omega
      have HO : Hid (ordB n T = true) := decide_eq_true (fun i hi => HALL.out i (by omega))
      have HBO : Hid (BlkR wr 147 G 1 n (fun i _ => opT (T i))) := bo.congr (fun i hi j _ => by rw [if_pos (by omega)])
      clear bo ek
      go_wp2
      go_ret2
      exact ⟨Or.inl ⟨HO.out, G, rfl, lG, HBO.out⟩, hbr⟩
end Go.Proofs.YtgldibfpidmfhaaGreatDoor

