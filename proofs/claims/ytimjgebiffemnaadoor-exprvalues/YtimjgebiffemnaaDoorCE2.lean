/- expr.uses, allAhead. -/
import Derived.Test.YtimjgebiffemnaaDoorCE1
import Derived.Test.YtimjgebiffemnaaDoorMS6
import Derived.Stop.Asserts
namespace Go.Proofs.YtimjgebiffemnaaDoor
open Go.RowKit

/-- v is a slice of n ints. -/
def Zs (w : World) (v : Value) (n : Nat) (f : Nat → Int) : Prop := Rs w v 1 n (fun i _ => .int .i64 (f i))
theorem Zs.below {w w' : World} {v : Value} {n : Nat} {f : Nat → Int} (h : Zs w v n f) (hb : Below w.heap.size w w') : Zs w' v n f := Rs.below h hb
/-- How many nodes an operation uses, and which. -/
def uN (O : Int) : Nat := if O = 5 ∨ O = 8 then 1 else if O = 6 ∨ O = 7 then 2 else 0
def uF (A B : Int) (i : Nat) : Int := if i = 0 then A else B
theorem one_Zs (w : World) (A B : Int) : Zs (w.alloc (.cells #[.int .i64 A] 3)) (.slice (some ⟨w.heap.size, 0, none⟩) 1 1) 1 (uF A B) := by
  refine BlkR.Rs (t := 3) ⟨#[.int .i64 A], ?_, rfl, ?_⟩ (by decide)
  · show (w.heap.push _)[w.heap.size]? = _
    simp
  · intro i hi j hj
    have hi' : i = 0 := by omega
    have hj' : j = 0 := by omega
    subst hi'; subst hj'
    rfl
theorem two_Zs (w : World) (A B : Int) : Zs (w.alloc (.cells #[.int .i64 A, .int .i64 B] 3)) (.slice (some ⟨w.heap.size, 0, none⟩) 2 2) 2 (uF A B) := by
  refine BlkR.Rs (t := 3) ⟨#[.int .i64 A, .int .i64 B], ?_, rfl, ?_⟩ (by decide)
  · show (w.heap.push _)[w.heap.size]? = _
    simp
  · intro i hi j hj
    have hi' : i = 0 ∨ i = 1 := by omega
    have hj' : j = 0 := by omega
    subst hj'
    rcases hi' with rfl | rfl <;> rfl
/-- Assertions to a struct: another dynamic type, or this one. -/
theorem as_other {t a xT : TypeId} {v z : Value} {d : TypeDesc} (w : World) (hu : Tryd.prog.underlying a = some d) (hd : (match d with | .interface _ => true | _ => false) = false) (hne : (t == a) = false) (hz : (Tryd.prog.info? a).map (·.zero) = some (some z)) :
    (Instr.typeAssert (.iface t v) xT a true).run Tryd.prog w = .ok (.tuple #[z, .bool false]) w := by
  obtain ⟨j, hj, hz⟩ := Option.map_eq_some_iff.mp hz
  cases d <;> simp_all [Instr.typeAssert, run_underlying hu, typeInfo, zeroValue, Sem.run_bind]
theorem as_same {t xT : TypeId} {v : Value} {d : TypeDesc} (w : World) (hu : Tryd.prog.underlying t = some d) (hd : (match d with | .interface _ => true | _ => false) = false) :
    (Instr.typeAssert (.iface t v) xT t true).run Tryd.prog w = .ok (.tuple #[v, .bool true]) w := by
  cases d <;> simp_all [Instr.typeAssert, run_underlying hu, typeInfo, zeroValue, Sem.run_bind]
theorem as_has {t xT asserted : TypeId} {v : Value} {want : Array (String × TypeId)} (w : World) (hu : Tryd.prog.underlying asserted = some (.interface want)) (h : (Tryd.prog.info? t).map (fun i => (lacking want i.methods).isEmpty) = some true) :
    (Instr.typeAssert (.iface t v) xT asserted false).run Tryd.prog w = .ok (.iface t v) w := by
  obtain ⟨i, hi, he⟩ := Option.map_eq_some_iff.mp h
  simp [Instr.typeAssert, run_underlying hu, typeInfo, hi, missingMethod_none (List.isEmpty_iff.mp he)]
set_option maxHeartbeats 8000000 in
set_option maxRecDepth 100000 in
theorem first_any (A : Int) (w : World) : Calls Tryd.prog 93 #[.agg #[.int .i64 A]] w fun e w' => e = .returned (.int .i64 A) ∧ Below w.heap.size w w' := by
  have HB : Hid (Below w.heap.size w (w.alloc (.cells #[.int .i64 A] 95))) := bAlloc (Below.refl _ _) _
  go_enter Tryd.func93, Tryd.ntmps93
  go_wp2
  go_ret
  exact ⟨rfl, HB.out⟩
set_option maxHeartbeats 8000000 in
set_option maxRecDepth 100000 in
theorem second_any (A B : Int) (w : World) : Calls Tryd.prog 94 #[.agg #[.int .i64 A, .int .i64 B]] w fun e w' => e = .returned (.int .i64 B) ∧ Below w.heap.size w w' := by
  have HB : Hid (Below w.heap.size w (w.alloc (.cells #[.int .i64 A, .int .i64 B] 97))) := bAlloc (Below.refl _ _) _
  go_enter Tryd.func94, Tryd.ntmps94
  go_wp2
  go_ret
  exact ⟨rfl, HB.out⟩
set_option maxHeartbeats 8000000 in
set_option maxRecDepth 100000 in
theorem uses_const (V : Nat) (w : World) : Calls Tryd.prog 33 #[.iface 99 (.agg #[.int .u64 ((limb 0 V : Nat) : Int), .int .u64 ((limb 1 V : Nat) : Int), .int .u64 ((limb 2 V : Nat) : Int), .int .u64 ((limb 3 V : Nat) : Int)])] w fun e w' => e = .returned (.slice none 0 0) ∧ Below w.heap.size w w' := by
  have fc : ∀ w, (Instr.typeAssert (.iface 99 (.agg #[.int .u64 ((limb 0 V : Nat) : Int), .int .u64 ((limb 1 V : Nat) : Int), .int .u64 ((limb 2 V : Nat) : Int), .int .u64 ((limb 3 V : Nat) : Int)])) 59 99 true).run Tryd.prog w = .ok (.tuple #[.agg #[.int .u64 ((limb 0 V : Nat) : Int), .int .u64 ((limb 1 V : Nat) : Int), .int .u64 ((limb 2 V : Nat) : Int), .int .u64 ((limb 3 V : Nat) : Int)], .bool true]) w := fun w => as_same w (d := .struct (Tryd.prog.fieldsOf 99)) (by kernel_rfl) rfl
  have fq : ∀ w, (Instr.typeAssert (.iface 99 (.agg #[.int .u64 ((limb 0 V : Nat) : Int), .int .u64 ((limb 1 V : Nat) : Int), .int .u64 ((limb 2 V : Nat) : Int), .int .u64 ((limb 3 V : Nat) : Int)])) 59 61 true).run Tryd.prog w = .ok (.tuple #[.agg #[.int .i64 0, .int .i64 0, .int .i64 0], .bool false]) w := fun w => as_other w (d := .struct (Tryd.prog.fieldsOf 61)) (by kernel_rfl) rfl (by decide) (by kernel_rfl)
  go_enter Tryd.func33, Tryd.ntmps33
  go_wp2
  go_ret
  exact ⟨rfl, Below.refl _ _⟩
set_option maxHeartbeats 8000000 in
set_option maxRecDepth 100000 in
theorem uses_query (O A B : Int) (w : World) : Calls Tryd.prog 33 #[.iface 61 (.agg #[.int .i64 O, .int .i64 A, .int .i64 B])] w fun e w' => e = .returned (.slice none 0 0) ∧ Below w.heap.size w w' := by
  have fc : ∀ w, (Instr.typeAssert (.iface 61 (.agg #[.int .i64 O, .int .i64 A, .int .i64 B])) 59 99 true).run Tryd.prog w = .ok (.tuple #[.agg #[.int .u64 0, .int .u64 0, .int .u64 0, .int .u64 0], .bool false]) w := fun w => as_other w (d := .struct (Tryd.prog.fieldsOf 99)) (by kernel_rfl) rfl (by decide) (by kernel_rfl)
  have fq : ∀ w, (Instr.typeAssert (.iface 61 (.agg #[.int .i64 O, .int .i64 A, .int .i64 B])) 59 61 true).run Tryd.prog w = .ok (.tuple #[.agg #[.int .i64 O, .int .i64 A, .int .i64 B], .bool true]) w := fun w => as_same w (d := .struct (Tryd.prog.fieldsOf 61)) (by kernel_rfl) rfl
  go_enter Tryd.func33, Tryd.ntmps33
  go_wp2
  go_ret
  exact ⟨rfl, Below.refl _ _⟩
set_option maxHeartbeats 8000000 in
set_option maxRecDepth 100000 in
theorem uses_neg (A : Int) (w : World) : Calls Tryd.prog 33 #[.iface 101 (.agg #[.int .i64 A])] w fun e w' => (∃ v, e = .returned v ∧ ∀ B, Zs w' v 1 (uF A B)) ∧ Below w.heap.size w w' := by
  have fc : ∀ w, (Instr.typeAssert (.iface 101 (.agg #[.int .i64 A])) 59 99 true).run Tryd.prog w = .ok (.tuple #[.agg #[.int .u64 0, .int .u64 0, .int .u64 0, .int .u64 0], .bool false]) w := fun w => as_other w (d := .struct (Tryd.prog.fieldsOf 99)) (by kernel_rfl) rfl (by decide) (by kernel_rfl)
  have fq : ∀ w, (Instr.typeAssert (.iface 101 (.agg #[.int .i64 A])) 59 61 true).run Tryd.prog w = .ok (.tuple #[.agg #[.int .i64 0, .int .i64 0, .int .i64 0], .bool false]) w := fun w => as_other w (d := .struct (Tryd.prog.fieldsOf 61)) (by kernel_rfl) rfl (by decide) (by kernel_rfl)
  have fu : ∀ w, (Instr.typeAssert (.iface 101 (.agg #[.int .i64 A])) 59 108 false).run Tryd.prog w = .ok (.iface 101 (.agg #[.int .i64 A])) w := fun w => as_has w Tryd.underlying108 (by kernel_rfl)
  have fp : ∀ w, (Instr.typeAssert (.iface 101 (.agg #[.int .i64 A])) 59 111 true).run Tryd.prog w = .ok (.tuple #[.nilIface, .bool false]) w := fun w => run_typeAssert_lacksB Tryd.underlying111 (by kernel_rfl) (by kernel_rfl) _ _ w
  have fm : ∀ w, (method 267 101 (.agg #[.int .i64 A]) "sigil/expr.first").run Tryd.prog w = .ok (93, .agg #[.int .i64 A]) w := fun w => by kernel_rfl
  go_enter Tryd.func33, Tryd.ntmps33
  go_wp2_with fail
  refine (first_any A w).mono ?_
  rintro e w1 ⟨rfl, hb1⟩
  have HB : Hid (Below w.heap.size w (w1.alloc (.cells #[.int .i64 A] 3))) := bStep hb1 (bAlloc (Below.refl _ _) _)
  have HZ : Hid (∀ B, Zs (w1.alloc (.cells #[.int .i64 A] 3)) (.slice (some ⟨w1.heap.size, 0, none⟩) 1 1) 1 (uF A B)) := fun B => one_Zs w1 A B
  go_wp2
  go_ret
  exact ⟨⟨_, rfl, HZ.out⟩, HB.out⟩
set_option maxHeartbeats 8000000 in
set_option maxRecDepth 100000 in
theorem uses_mul (A : Int) (V : Nat) (w : World) : Calls Tryd.prog 33 #[.iface 106 (.agg #[.int .i64 A, .int .u64 ((limb 0 V : Nat) : Int), .int .u64 ((limb 1 V : Nat) : Int), .int .u64 ((limb 2 V : Nat) : Int), .int .u64 ((limb 3 V : Nat) : Int)])] w fun e w' => (∃ v, e = .returned v ∧ ∀ B, Zs w' v 1 (uF A B)) ∧ Below w.heap.size w w' := by
  have fc : ∀ w, (Instr.typeAssert (.iface 106 (.agg #[.int .i64 A, .int .u64 ((limb 0 V : Nat) : Int), .int .u64 ((limb 1 V : Nat) : Int), .int .u64 ((limb 2 V : Nat) : Int), .int .u64 ((limb 3 V : Nat) : Int)])) 59 99 true).run Tryd.prog w = .ok (.tuple #[.agg #[.int .u64 0, .int .u64 0, .int .u64 0, .int .u64 0], .bool false]) w := fun w => as_other w (d := .struct (Tryd.prog.fieldsOf 99)) (by kernel_rfl) rfl (by decide) (by kernel_rfl)
  have fq : ∀ w, (Instr.typeAssert (.iface 106 (.agg #[.int .i64 A, .int .u64 ((limb 0 V : Nat) : Int), .int .u64 ((limb 1 V : Nat) : Int), .int .u64 ((limb 2 V : Nat) : Int), .int .u64 ((limb 3 V : Nat) : Int)])) 59 61 true).run Tryd.prog w = .ok (.tuple #[.agg #[.int .i64 0, .int .i64 0, .int .i64 0], .bool false]) w := fun w => as_other w (d := .struct (Tryd.prog.fieldsOf 61)) (by kernel_rfl) rfl (by decide) (by kernel_rfl)
  have fu : ∀ w, (Instr.typeAssert (.iface 106 (.agg #[.int .i64 A, .int .u64 ((limb 0 V : Nat) : Int), .int .u64 ((limb 1 V : Nat) : Int), .int .u64 ((limb 2 V : Nat) : Int), .int .u64 ((limb 3 V : Nat) : Int)])) 59 108 false).run Tryd.prog w = .ok (.iface 106 (.agg #[.int .i64 A, .int .u64 ((limb 0 V : Nat) : Int), .int .u64 ((limb 1 V : Nat) : Int), .int .u64 ((limb 2 V : Nat) : Int), .int .u64 ((limb 3 V : Nat) : Int)])) w := fun w => as_has w Tryd.underlying108 (by kernel_rfl)
  have fp : ∀ w, (Instr.typeAssert (.iface 106 (.agg #[.int .i64 A, .int .u64 ((limb 0 V : Nat) : Int), .int .u64 ((limb 1 V : Nat) : Int), .int .u64 ((limb 2 V : Nat) : Int), .int .u64 ((limb 3 V : Nat) : Int)])) 59 111 true).run Tryd.prog w = .ok (.tuple #[.nilIface, .bool false]) w := fun w => run_typeAssert_lacksB Tryd.underlying111 (by kernel_rfl) (by kernel_rfl) _ _ w
  have fm : ∀ w, (method 267 106 (.agg #[.int .i64 A, .int .u64 ((limb 0 V : Nat) : Int), .int .u64 ((limb 1 V : Nat) : Int), .int .u64 ((limb 2 V : Nat) : Int), .int .u64 ((limb 3 V : Nat) : Int)]) "sigil/expr.first").run Tryd.prog w = .ok (93, .agg #[.int .i64 A]) w := fun w => by kernel_rfl
  go_enter Tryd.func33, Tryd.ntmps33
  go_wp2_with fail
  refine (first_any A w).mono ?_
  rintro e w1 ⟨rfl, hb1⟩
  have HB : Hid (Below w.heap.size w (w1.alloc (.cells #[.int .i64 A] 3))) := bStep hb1 (bAlloc (Below.refl _ _) _)
  have HZ : Hid (∀ B, Zs (w1.alloc (.cells #[.int .i64 A] 3)) (.slice (some ⟨w1.heap.size, 0, none⟩) 1 1) 1 (uF A B)) := fun B => one_Zs w1 A B
  go_wp2
  go_ret
  exact ⟨⟨_, rfl, HZ.out⟩, HB.out⟩
set_option maxHeartbeats 8000000 in
set_option maxRecDepth 100000 in
theorem uses_sum (A B : Int) (w : World) : Calls Tryd.prog 33 #[.iface 103 (.agg #[.int .i64 A, .int .i64 B])] w fun e w' => (∃ v, e = .returned v ∧ Zs w' v 2 (uF A B)) ∧ Below w.heap.size w w' := by
  have fc : ∀ w, (Instr.typeAssert (.iface 103 (.agg #[.int .i64 A, .int .i64 B])) 59 99 true).run Tryd.prog w = .ok (.tuple #[.agg #[.int .u64 0, .int .u64 0, .int .u64 0, .int .u64 0], .bool false]) w := fun w => as_other w (d := .struct (Tryd.prog.fieldsOf 99)) (by kernel_rfl) rfl (by decide) (by kernel_rfl)
  have fq : ∀ w, (Instr.typeAssert (.iface 103 (.agg #[.int .i64 A, .int .i64 B])) 59 61 true).run Tryd.prog w = .ok (.tuple #[.agg #[.int .i64 0, .int .i64 0, .int .i64 0], .bool false]) w := fun w => as_other w (d := .struct (Tryd.prog.fieldsOf 61)) (by kernel_rfl) rfl (by decide) (by kernel_rfl)
  have fu : ∀ w, (Instr.typeAssert (.iface 103 (.agg #[.int .i64 A, .int .i64 B])) 59 108 false).run Tryd.prog w = .ok (.iface 103 (.agg #[.int .i64 A, .int .i64 B])) w := fun w => as_has w Tryd.underlying108 (by kernel_rfl)
  have fp : ∀ w, (Instr.typeAssert (.iface 103 (.agg #[.int .i64 A, .int .i64 B])) 59 111 true).run Tryd.prog w = .ok (.tuple #[.iface 103 (.agg #[.int .i64 A, .int .i64 B]), .bool true]) w := fun w => run_typeAssert_hasB Tryd.underlying111 (by kernel_rfl) _ _ w
  have fm : ∀ w, (method 267 103 (.agg #[.int .i64 A, .int .i64 B]) "sigil/expr.first").run Tryd.prog w = .ok (93, .agg #[.int .i64 A]) w := fun w => by kernel_rfl
  have fs : ∀ w, (method 267 103 (.agg #[.int .i64 A, .int .i64 B]) "sigil/expr.second").run Tryd.prog w = .ok (94, .agg #[.int .i64 A, .int .i64 B]) w := fun w => by kernel_rfl
  go_enter Tryd.func33, Tryd.ntmps33
  go_wp2_with fail
  refine (first_any A w).mono ?_
  rintro e w1 ⟨rfl, hb1⟩
  go_wp2_with fail
  refine (second_any A B w1).mono ?_
  rintro e w2 ⟨rfl, hb2⟩
  have HB : Hid (Below w.heap.size w (w2.alloc (.cells #[.int .i64 A, .int .i64 B] 3))) := bStep (bStep hb1 hb2) (bAlloc (Below.refl _ _) _)
  have HZ : Hid (Zs (w2.alloc (.cells #[.int .i64 A, .int .i64 B] 3)) (.slice (some ⟨w2.heap.size, 0, none⟩) 2 2) 2 (uF A B)) := two_Zs w2 A B
  go_wp2
  go_ret
  exact ⟨⟨_, rfl, HZ.out⟩, HB.out⟩
set_option maxHeartbeats 8000000 in
set_option maxRecDepth 100000 in
theorem uses_prod (A B : Int) (w : World) : Calls Tryd.prog 33 #[.iface 104 (.agg #[.int .i64 A, .int .i64 B])] w fun e w' => (∃ v, e = .returned v ∧ Zs w' v 2 (uF A B)) ∧ Below w.heap.size w w' := by
  have fc : ∀ w, (Instr.typeAssert (.iface 104 (.agg #[.int .i64 A, .int .i64 B])) 59 99 true).run Tryd.prog w = .ok (.tuple #[.agg #[.int .u64 0, .int .u64 0, .int .u64 0, .int .u64 0], .bool false]) w := fun w => as_other w (d := .struct (Tryd.prog.fieldsOf 99)) (by kernel_rfl) rfl (by decide) (by kernel_rfl)
  have fq : ∀ w, (Instr.typeAssert (.iface 104 (.agg #[.int .i64 A, .int .i64 B])) 59 61 true).run Tryd.prog w = .ok (.tuple #[.agg #[.int .i64 0, .int .i64 0, .int .i64 0], .bool false]) w := fun w => as_other w (d := .struct (Tryd.prog.fieldsOf 61)) (by kernel_rfl) rfl (by decide) (by kernel_rfl)
  have fu : ∀ w, (Instr.typeAssert (.iface 104 (.agg #[.int .i64 A, .int .i64 B])) 59 108 false).run Tryd.prog w = .ok (.iface 104 (.agg #[.int .i64 A, .int .i64 B])) w := fun w => as_has w Tryd.underlying108 (by kernel_rfl)
  have fp : ∀ w, (Instr.typeAssert (.iface 104 (.agg #[.int .i64 A, .int .i64 B])) 59 111 true).run Tryd.prog w = .ok (.tuple #[.iface 104 (.agg #[.int .i64 A, .int .i64 B]), .bool true]) w := fun w => run_typeAssert_hasB Tryd.underlying111 (by kernel_rfl) _ _ w
  have fm : ∀ w, (method 267 104 (.agg #[.int .i64 A, .int .i64 B]) "sigil/expr.first").run Tryd.prog w = .ok (93, .agg #[.int .i64 A]) w := fun w => by kernel_rfl
  have fs : ∀ w, (method 267 104 (.agg #[.int .i64 A, .int .i64 B]) "sigil/expr.second").run Tryd.prog w = .ok (94, .agg #[.int .i64 A, .int .i64 B]) w := fun w => by kernel_rfl
  go_enter Tryd.func33, Tryd.ntmps33
  go_wp2_with fail
  refine (first_any A w).mono ?_
  rintro e w1 ⟨rfl, hb1⟩
  go_wp2_with fail
  refine (second_any A B w1).mono ?_
  rintro e w2 ⟨rfl, hb2⟩
  have HB : Hid (Below w.heap.size w (w2.alloc (.cells #[.int .i64 A, .int .i64 B] 3))) := bStep (bStep hb1 hb2) (bAlloc (Below.refl _ _) _)
  have HZ : Hid (Zs (w2.alloc (.cells #[.int .i64 A, .int .i64 B] 3)) (.slice (some ⟨w2.heap.size, 0, none⟩) 2 2) 2 (uF A B)) := two_Zs w2 A B
  go_wp2
  go_ret
  exact ⟨⟨_, rfl, HZ.out⟩, HB.out⟩
/-- uses of any operation. -/
theorem uses_any (O A B : Int) (V : Nat) (h : 1 ≤ O ∧ O ≤ 8) (w : World) : Calls Tryd.prog 33 #[opV O A B V] w fun e w' => (∃ v, e = .returned v ∧ Zs w' v (uN O) (uF A B)) ∧ Below w.heap.size w w' := by
  have hc : O = 1 ∨ O = 2 ∨ O = 3 ∨ O = 4 ∨ O = 5 ∨ O = 6 ∨ O = 7 ∨ O = 8 := by omega
  rcases hc with rfl | rfl | rfl | rfl | rfl | rfl | rfl | rfl
  · refine (uses_const V w).mono ?_
    rintro e w' ⟨rfl, hb⟩
    exact ⟨⟨_, rfl, Or.inl ⟨rfl, rfl⟩⟩, hb⟩
  · refine (uses_query 2 A B w).mono ?_
    rintro e w' ⟨rfl, hb⟩
    exact ⟨⟨_, rfl, Or.inl ⟨rfl, rfl⟩⟩, hb⟩
  · refine (uses_query 3 A B w).mono ?_
    rintro e w' ⟨rfl, hb⟩
    exact ⟨⟨_, rfl, Or.inl ⟨rfl, rfl⟩⟩, hb⟩
  · refine (uses_query 4 A B w).mono ?_
    rintro e w' ⟨rfl, hb⟩
    exact ⟨⟨_, rfl, Or.inl ⟨rfl, rfl⟩⟩, hb⟩
  · refine (uses_neg A w).mono ?_
    rintro e w' ⟨⟨v, rfl, hz⟩, hb⟩
    exact ⟨⟨_, rfl, hz B⟩, hb⟩
  · exact uses_sum A B w
  · exact uses_prod A B w
  · refine (uses_mul A V w).mono ?_
    rintro e w' ⟨⟨v, rfl, hz⟩, hb⟩
    exact ⟨⟨_, rfl, hz B⟩, hb⟩
/-- Do n places lie ahead of one? -/
def ahB (n : Nat) (f : Nat → Int) (one : Int) : Bool := decide (∀ i, i < n → 0 ≤ f i ∧ f i < one)
set_option maxHeartbeats 8000000 in
set_option maxRecDepth 100000 in
theorem ahead_any (n : Nat) (v : Value) (f : Nat → Int) (one : Int) (hn : n ≤ 1000000) (w : World) (hv : Zs w v n f) :
    Calls Tryd.prog 47 #[v, .int .i64 one] w fun e w' => e = .returned (.bool (ahB n f one)) ∧ w' = w := by
  obtain ⟨oa, cn, rfl⟩ := Rs.shape hv
  have HV : Hid (Zs w (.slice oa n cn) n f) := hv
  obtain ⟨bA, ebA⟩ : ∃ b, b = ahB n f one := ⟨_, rfl⟩
  rw [← ebA]
  have HBA : Hid (bA = ahB n f one) := ebA
  clear hv ebA
  go_enter Tryd.func47, Tryd.ntmps47
  go_wp2
  go_loop [9] (fun iv => ∃ k : Nat, iv = .int .i64 (k : Int) ∧ k ≤ n ∧ Hid (∀ i, i < k → 0 ≤ f i ∧ f i < one)) (fun iv => n - (intOf iv).toNat)
  case atStart => exact ⟨0, rfl, Nat.zero_le _, fun i hi => by omega⟩
  case round =>
    obtain ⟨k, rfl, hk, HALL⟩ := hrel
    by_cases hlt : k < n
    · have hki : (k : Int) < (n : Int) := by omega
      have hk0 : (0 : Int) ≤ (k : Int) := by omega
      rcases HV.out with ⟨_, h0⟩ | ⟨ab, ao, c', hv, _, _, lab, hcell⟩
      · omega
      cases hv
      have a0 := hcell k hlt 0 (by decide)
      dsimp only at a0
      rw [Nat.add_zero, Nat.mul_one] at a0
      obtain ⟨y, ey⟩ : ∃ y, y = f k := ⟨_, rfl⟩
      rw [← ey] at a0
      have HY : Hid (y = f k) := ey
      clear hcell ey lab
      by_cases h0 : y < 0
      · have HF : Hid (bA = false) := HBA.out.trans (decide_eq_false (fun a => by have := (a k hlt).1; have := HY.out; omega))
        go_wp2
        go_ret
        exact ⟨by rw [HF.out]; rfl, rfl⟩
      · by_cases h1 : one ≤ y
        · have HF : Hid (bA = false) := HBA.out.trans (decide_eq_false (fun a => by have := (a k hlt).2; have := HY.out; omega))
          go_wp2
          go_ret
          exact ⟨by rw [HF.out]; rfl, rfl⟩
        · have HN : Hid (∀ i, i < k + 1 → 0 ≤ f i ∧ f i < one) := fun i hi => by
            rcases Nat.lt_or_ge i k with h | h
            · exact HALL.out i h
            · rw [show i = k by omega, ← HY.out]; exact ⟨by omega, by omega⟩
          go_wp2
          go_round
          case measure => simp [intOf]; omega
          case rel => exact ⟨k + 1, by go_num, by omega, HN⟩
    · have hki : ¬ (k : Int) < (n : Int) := by omega
      have HT : Hid (bA = true) := HBA.out.trans (decide_eq_true (fun i hi => HALL.out i (by omega)))
      go_wp2
      go_ret
      exact ⟨by rw [HT.out]; rfl, rfl⟩

end Go.Proofs.YtimjgebiffemnaaDoor
