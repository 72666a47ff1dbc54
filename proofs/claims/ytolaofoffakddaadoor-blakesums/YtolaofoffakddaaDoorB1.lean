/- The turns and the mixing of blake, in the program and in the reference. -/
import Derived.Test.YtolaofoffakddaaDoorBlk
import Derived.Test.YtolaofoffakddaaDoorStep
import Derived.Test.YtolaofoffakddaaDoorChecked
import Derived.LoopN
import Derived.Laws.Externs
import Derived.Laws.Bits64
import Derived.Laws.Bits64b
namespace Go.Proofs.YtolaofoffakddaaDoor
open Go.RowKit

/-- A word turned right by n bits. -/
def ror (n x : Nat) : Nat := (x / 2 ^ n) ||| (x * 2 ^ (64 - n) % 18446744073709551616)
theorem ror_lt (n x : Nat) (hx : x < 18446744073709551616) : ror n x < 18446744073709551616 := by
  unfold ror
  have h1 : x / 2 ^ n < 2 ^ 64 := Nat.lt_of_le_of_lt (Nat.div_le_self _ _) (by simpa using hx)
  have h2 : x * 2 ^ (64 - n) % 18446744073709551616 < 2 ^ 64 := by simpa using Nat.mod_lt (x * 2 ^ (64 - n)) (show 0 < 18446744073709551616 by decide)
  simpa using Nat.or_lt_two_pow h1 h2
/-- The sum of two words without what is above 64 bits. -/
def addW (a b : Nat) : Nat := (a + b) % 18446744073709551616
theorem addW_lt (a b : Nat) : addW a b < 18446744073709551616 := Nat.mod_lt _ (by decide)
theorem addW_assoc (a b c : Nat) : addW (addW a b) c = addW a (addW b c) := by unfold addW; omega
theorem xor_lt (a b : Nat) (ha : a < 18446744073709551616) (hb : b < 18446744073709551616) : a ^^^ b < 18446744073709551616 := by
  have h := Nat.xor_lt_two_pow (n := 64) (show a < 2 ^ 64 by simpa using ha) (show b < 2 ^ 64 by simpa using hb)
  simpa using h
theorem wrap_addW (a b : Nat) : IntKind.u64.wrap ((a : Int) + (b : Int)) = ((addW a b : Nat) : Int) := by
  rw [IntKind.wrap_u64]; unfold addW; omega
theorem xor_run (a b : Nat) (ha : a < 18446744073709551616) (hb : b < 18446744073709551616) : bits BinOp.xor IntKind.u64 (a : Int) (b : Int) = ((a ^^^ b : Nat) : Int) := bits_xor_u64_nat a b ha hb

theorem or_run (a b : Nat) (ha : a < 18446744073709551616) (hb : b < 18446744073709551616) : bits BinOp.or IntKind.u64 (a : Int) (b : Int) = ((a ||| b : Nat) : Int) := bits_or_u64_nat a b ha hb
theorem div_lt (x n : Nat) (hx : x < 18446744073709551616) : x / n < 18446744073709551616 := Nat.lt_of_le_of_lt (Nat.div_le_self _ _) hx

set_option maxHeartbeats 1000000 in
theorem rotl32_walk (x y z r : Nat) (w : World) (hw : IntKind.u64.wrap ((x : Int) * 4294967296) = (y : Int)) (hd : (x : Int) / 4294967296 = (z : Int)) (ho : bits BinOp.or IntKind.u64 (y : Int) (z : Int) = (r : Int)) :
    Calls Tryd.prog 27 #[.int .u64 (x : Int), .int .i64 (-32)] w fun e w' => e = .returned (.int .u64 (r : Int)) ∧ w' = w := by
  have hm : bits BinOp.and IntKind.u64 (IntKind.u64.wrap (-32)) 63 = 32 := by decide
  go_enter Tryd.func27, Tryd.ntmps27
  go_wp2
  go_ret
  exact ⟨rfl, rfl⟩
theorem ror32_parts (x : Nat) (hx : x < 18446744073709551616) : IntKind.u64.wrap ((x : Int) * 4294967296) = ((x * 2 ^ (64 - 32) % 18446744073709551616 : Nat) : Int) ∧ (x : Int) / 4294967296 = ((x / 2 ^ 32 : Nat) : Int) ∧ bits BinOp.or IntKind.u64 ((x * 2 ^ (64 - 32) % 18446744073709551616 : Nat) : Int) ((x / 2 ^ 32 : Nat) : Int) = ((ror 32 x : Nat) : Int) ∧ bits BinOp.or IntKind.u64 ((x / 2 ^ 32 : Nat) : Int) ((x * 2 ^ (64 - 32) % 18446744073709551616 : Nat) : Int) = ((ror 32 x : Nat) : Int) := by
  refine ⟨by rw [IntKind.wrap_u64]; omega, by omega, ?_, ?_⟩
  · rw [or_run _ _ (Nat.mod_lt _ (by decide)) (div_lt _ _ hx), Nat.or_comm]; rfl
  · rw [or_run _ _ (div_lt _ _ hx) (Nat.mod_lt _ (by decide))]; rfl
set_option maxHeartbeats 1000000 in
/-- blake.turnRight by 32. -/
theorem turnRight32 (x : Nat) (hx : x < 18446744073709551616) (w : World) :
    Calls Tryd.prog 26 #[.int .u64 (x : Int), .int .i64 32] w fun e w' => e = .returned (.int .u64 ((ror 32 x : Nat) : Int)) ∧ w' = w := by
  have hr := ror32_parts x hx
  have C := fun w => rotl32_walk x _ _ _ w hr.1 hr.2.1 hr.2.2.1
  obtain ⟨r, er⟩ : ∃ r, r = ror 32 x := ⟨_, rfl⟩
  rw [← er] at C ⊢
  clear hr er hx
  go_enter Tryd.func26, Tryd.ntmps26
  go_wp2_with fail
  refine (C _).mono ?_
  rintro e w1 ⟨rfl, rfl⟩
  go_wp2
  go_ret
  exact ⟨rfl, rfl⟩
set_option maxHeartbeats 1000000 in
theorem turn32_walk (x y z r : Nat) (w : World) (hw : IntKind.u64.wrap ((x : Int) * 4294967296) = (y : Int)) (hd : (x : Int) / 4294967296 = (z : Int)) (ho : bits BinOp.or IntKind.u64 (z : Int) (y : Int) = (r : Int)) :
    Calls Tryd.prog 25 #[.int .u64 (x : Int), .int .u64 32] w fun e w' => e = .returned (.int .u64 (r : Int)) ∧ w' = w := by
  go_enter Tryd.func25, Tryd.ntmps25
  go_wp2
  go_ret
  exact ⟨rfl, rfl⟩
/-- The reference's turn by 32. -/
theorem turn32 (x : Nat) (hx : x < 18446744073709551616) (w : World) :
    Calls Tryd.prog 25 #[.int .u64 (x : Int), .int .u64 32] w fun e w' => e = .returned (.int .u64 ((ror 32 x : Nat) : Int)) ∧ w' = w := by
  have hr := ror32_parts x hx
  exact turn32_walk x _ _ _ w hr.1 hr.2.1 hr.2.2.2

set_option maxHeartbeats 1000000 in
theorem rotl24_walk (x y z r : Nat) (w : World) (hw : IntKind.u64.wrap ((x : Int) * 1099511627776) = (y : Int)) (hd : (x : Int) / 16777216 = (z : Int)) (ho : bits BinOp.or IntKind.u64 (y : Int) (z : Int) = (r : Int)) :
    Calls Tryd.prog 27 #[.int .u64 (x : Int), .int .i64 (-24)] w fun e w' => e = .returned (.int .u64 (r : Int)) ∧ w' = w := by
  have hm : bits BinOp.and IntKind.u64 (IntKind.u64.wrap (-24)) 63 = 40 := by decide
  go_enter Tryd.func27, Tryd.ntmps27
  go_wp2
  go_ret
  exact ⟨rfl, rfl⟩
theorem ror24_parts (x : Nat) (hx : x < 18446744073709551616) : IntKind.u64.wrap ((x : Int) * 1099511627776) = ((x * 2 ^ (64 - 24) % 18446744073709551616 : Nat) : Int) ∧ (x : Int) / 16777216 = ((x / 2 ^ 24 : Nat) : Int) ∧ bits BinOp.or IntKind.u64 ((x * 2 ^ (64 - 24) % 18446744073709551616 : Nat) : Int) ((x / 2 ^ 24 : Nat) : Int) = ((ror 24 x : Nat) : Int) ∧ bits BinOp.or IntKind.u64 ((x / 2 ^ 24 : Nat) : Int) ((x * 2 ^ (64 - 24) % 18446744073709551616 : Nat) : Int) = ((ror 24 x : Nat) : Int) := by
  refine ⟨by rw [IntKind.wrap_u64]; omega, by omega, ?_, ?_⟩
  · rw [or_run _ _ (Nat.mod_lt _ (by decide)) (div_lt _ _ hx), Nat.or_comm]; rfl
  · rw [or_run _ _ (div_lt _ _ hx) (Nat.mod_lt _ (by decide))]; rfl
set_option maxHeartbeats 1000000 in
/-- blake.turnRight by 24. -/
theorem turnRight24 (x : Nat) (hx : x < 18446744073709551616) (w : World) :
    Calls Tryd.prog 26 #[.int .u64 (x : Int), .int .i64 24] w fun e w' => e = .returned (.int .u64 ((ror 24 x : Nat) : Int)) ∧ w' = w := by
  have hr := ror24_parts x hx
  have C := fun w => rotl24_walk x _ _ _ w hr.1 hr.2.1 hr.2.2.1
  obtain ⟨r, er⟩ : ∃ r, r = ror 24 x := ⟨_, rfl⟩
  rw [← er] at C ⊢
  clear hr er hx
  go_enter Tryd.func26, Tryd.ntmps26
  go_wp2_with fail
  refine (C _).mono ?_
  rintro e w1 ⟨rfl, rfl⟩
  go_wp2
  go_ret
  exact ⟨rfl, rfl⟩
set_option maxHeartbeats 1000000 in
theorem turn24_walk (x y z r : Nat) (w : World) (hw : IntKind.u64.wrap ((x : Int) * 1099511627776) = (y : Int)) (hd : (x : Int) / 16777216 = (z : Int)) (ho : bits BinOp.or IntKind.u64 (z : Int) (y : Int) = (r : Int)) :
    Calls Tryd.prog 25 #[.int .u64 (x : Int), .int .u64 24] w fun e w' => e = .returned (.int .u64 (r : Int)) ∧ w' = w := by
  go_enter Tryd.func25, Tryd.ntmps25
  go_wp2
  go_ret
  exact ⟨rfl, rfl⟩
/-- The reference's turn by 24. -/
theorem turn24 (x : Nat) (hx : x < 18446744073709551616) (w : World) :
    Calls Tryd.prog 25 #[.int .u64 (x : Int), .int .u64 24] w fun e w' => e = .returned (.int .u64 ((ror 24 x : Nat) : Int)) ∧ w' = w := by
  have hr := ror24_parts x hx
  exact turn24_walk x _ _ _ w hr.1 hr.2.1 hr.2.2.2

set_option maxHeartbeats 1000000 in
theorem rotl16_walk (x y z r : Nat) (w : World) (hw : IntKind.u64.wrap ((x : Int) * 281474976710656) = (y : Int)) (hd : (x : Int) / 65536 = (z : Int)) (ho : bits BinOp.or IntKind.u64 (y : Int) (z : Int) = (r : Int)) :
    Calls Tryd.prog 27 #[.int .u64 (x : Int), .int .i64 (-16)] w fun e w' => e = .returned (.int .u64 (r : Int)) ∧ w' = w := by
  have hm : bits BinOp.and IntKind.u64 (IntKind.u64.wrap (-16)) 63 = 48 := by decide
  go_enter Tryd.func27, Tryd.ntmps27
  go_wp2
  go_ret
  exact ⟨rfl, rfl⟩
theorem ror16_parts (x : Nat) (hx : x < 18446744073709551616) : IntKind.u64.wrap ((x : Int) * 281474976710656) = ((x * 2 ^ (64 - 16) % 18446744073709551616 : Nat) : Int) ∧ (x : Int) / 65536 = ((x / 2 ^ 16 : Nat) : Int) ∧ bits BinOp.or IntKind.u64 ((x * 2 ^ (64 - 16) % 18446744073709551616 : Nat) : Int) ((x / 2 ^ 16 : Nat) : Int) = ((ror 16 x : Nat) : Int) ∧ bits BinOp.or IntKind.u64 ((x / 2 ^ 16 : Nat) : Int) ((x * 2 ^ (64 - 16) % 18446744073709551616 : Nat) : Int) = ((ror 16 x : Nat) : Int) := by
  refine ⟨by rw [IntKind.wrap_u64]; omega, by omega, ?_, ?_⟩
  · rw [or_run _ _ (Nat.mod_lt _ (by decide)) (div_lt _ _ hx), Nat.or_comm]; rfl
  · rw [or_run _ _ (div_lt _ _ hx) (Nat.mod_lt _ (by decide))]; rfl
set_option maxHeartbeats 1000000 in
/-- blake.turnRight by 16. -/
theorem turnRight16 (x : Nat) (hx : x < 18446744073709551616) (w : World) :
    Calls Tryd.prog 26 #[.int .u64 (x : Int), .int .i64 16] w fun e w' => e = .returned (.int .u64 ((ror 16 x : Nat) : Int)) ∧ w' = w := by
  have hr := ror16_parts x hx
  have C := fun w => rotl16_walk x _ _ _ w hr.1 hr.2.1 hr.2.2.1
  obtain ⟨r, er⟩ : ∃ r, r = ror 16 x := ⟨_, rfl⟩
  rw [← er] at C ⊢
  clear hr er hx
  go_enter Tryd.func26, Tryd.ntmps26
  go_wp2_with fail
  refine (C _).mono ?_
  rintro e w1 ⟨rfl, rfl⟩
  go_wp2
  go_ret
  exact ⟨rfl, rfl⟩
set_option maxHeartbeats 1000000 in
theorem turn16_walk (x y z r : Nat) (w : World) (hw : IntKind.u64.wrap ((x : Int) * 281474976710656) = (y : Int)) (hd : (x : Int) / 65536 = (z : Int)) (ho : bits BinOp.or IntKind.u64 (z : Int) (y : Int) = (r : Int)) :
    Calls Tryd.prog 25 #[.int .u64 (x : Int), .int .u64 16] w fun e w' => e = .returned (.int .u64 (r : Int)) ∧ w' = w := by
  go_enter Tryd.func25, Tryd.ntmps25
  go_wp2
  go_ret
  exact ⟨rfl, rfl⟩
/-- The reference's turn by 16. -/
theorem turn16 (x : Nat) (hx : x < 18446744073709551616) (w : World) :
    Calls Tryd.prog 25 #[.int .u64 (x : Int), .int .u64 16] w fun e w' => e = .returned (.int .u64 ((ror 16 x : Nat) : Int)) ∧ w' = w := by
  have hr := ror16_parts x hx
  exact turn16_walk x _ _ _ w hr.1 hr.2.1 hr.2.2.2

set_option maxHeartbeats 1000000 in
theorem rotl63_walk (x y z r : Nat) (w : World) (hw : IntKind.u64.wrap ((x : Int) * 2) = (y : Int)) (hd : (x : Int) / 9223372036854775808 = (z : Int)) (ho : bits BinOp.or IntKind.u64 (y : Int) (z : Int) = (r : Int)) :
    Calls Tryd.prog 27 #[.int .u64 (x : Int), .int .i64 (-63)] w fun e w' => e = .returned (.int .u64 (r : Int)) ∧ w' = w := by
  have hm : bits BinOp.and IntKind.u64 (IntKind.u64.wrap (-63)) 63 = 1 := by decide
  go_enter Tryd.func27, Tryd.ntmps27
  go_wp2
  go_ret
  exact ⟨rfl, rfl⟩
theorem ror63_parts (x : Nat) (hx : x < 18446744073709551616) : IntKind.u64.wrap ((x : Int) * 2) = ((x * 2 ^ (64 - 63) % 18446744073709551616 : Nat) : Int) ∧ (x : Int) / 9223372036854775808 = ((x / 2 ^ 63 : Nat) : Int) ∧ bits BinOp.or IntKind.u64 ((x * 2 ^ (64 - 63) % 18446744073709551616 : Nat) : Int) ((x / 2 ^ 63 : Nat) : Int) = ((ror 63 x : Nat) : Int) ∧ bits BinOp.or IntKind.u64 ((x / 2 ^ 63 : Nat) : Int) ((x * 2 ^ (64 - 63) % 18446744073709551616 : Nat) : Int) = ((ror 63 x : Nat) : Int) := by
  refine ⟨by rw [IntKind.wrap_u64]; omega, by omega, ?_, ?_⟩
  · rw [or_run _ _ (Nat.mod_lt _ (by decide)) (div_lt _ _ hx), Nat.or_comm]; rfl
  · rw [or_run _ _ (div_lt _ _ hx) (Nat.mod_lt _ (by decide))]; rfl
set_option maxHeartbeats 1000000 in
/-- blake.turnRight by 63. -/
theorem turnRight63 (x : Nat) (hx : x < 18446744073709551616) (w : World) :
    Calls Tryd.prog 26 #[.int .u64 (x : Int), .int .i64 63] w fun e w' => e = .returned (.int .u64 ((ror 63 x : Nat) : Int)) ∧ w' = w := by
  have hr := ror63_parts x hx
  have C := fun w => rotl63_walk x _ _ _ w hr.1 hr.2.1 hr.2.2.1
  obtain ⟨r, er⟩ : ∃ r, r = ror 63 x := ⟨_, rfl⟩
  rw [← er] at C ⊢
  clear hr er hx
  go_enter Tryd.func26, Tryd.ntmps26
  go_wp2_with fail
  refine (C _).mono ?_
  rintro e w1 ⟨rfl, rfl⟩
  go_wp2
  go_ret
  exact ⟨rfl, rfl⟩
set_option maxHeartbeats 1000000 in
theorem turn63_walk (x y z r : Nat) (w : World) (hw : IntKind.u64.wrap ((x : Int) * 2) = (y : Int)) (hd : (x : Int) / 9223372036854775808 = (z : Int)) (ho : bits BinOp.or IntKind.u64 (z : Int) (y : Int) = (r : Int)) :
    Calls Tryd.prog 25 #[.int .u64 (x : Int), .int .u64 63] w fun e w' => e = .returned (.int .u64 (r : Int)) ∧ w' = w := by
  go_enter Tryd.func25, Tryd.ntmps25
  go_wp2
  go_ret
  exact ⟨rfl, rfl⟩
/-- The reference's turn by 63. -/
theorem turn63 (x : Nat) (hx : x < 18446744073709551616) (w : World) :
    Calls Tryd.prog 25 #[.int .u64 (x : Int), .int .u64 63] w fun e w' => e = .returned (.int .u64 ((ror 63 x : Nat) : Int)) ∧ w' = w := by
  have hr := ror63_parts x hx
  exact turn63_walk x _ _ _ w hr.1 hr.2.1 hr.2.2.2

/-- The mixing of four words with two more. -/
def mixA1 (a b x : Nat) : Nat := addW a (addW b x)
def mixD1 (a b d x : Nat) : Nat := ror 32 (d ^^^ mixA1 a b x)
def mixC1 (a b c d x : Nat) : Nat := addW c (mixD1 a b d x)
def mixB1 (a b c d x : Nat) : Nat := ror 24 (b ^^^ mixC1 a b c d x)
def mixA (a b c d x y : Nat) : Nat := addW (mixA1 a b x) (addW (mixB1 a b c d x) y)
def mixD (a b c d x y : Nat) : Nat := ror 16 (mixD1 a b d x ^^^ mixA a b c d x y)
def mixC (a b c d x y : Nat) : Nat := addW (mixC1 a b c d x) (mixD a b c d x y)
def mixB (a b c d x y : Nat) : Nat := ror 63 (mixB1 a b c d x ^^^ mixC a b c d x y)
theorem mixA_lt (a b c d x y : Nat) : mixA a b c d x y < 18446744073709551616 := addW_lt _ _
theorem mixC_lt (a b c d x y : Nat) : mixC a b c d x y < 18446744073709551616 := addW_lt _ _
theorem mixD1_lt (a b d x : Nat) (hd : d < 18446744073709551616) : mixD1 a b d x < 18446744073709551616 := ror_lt _ _ (xor_lt _ _ hd (addW_lt _ _))
theorem mixB1_lt (a b c d x : Nat) (hb : b < 18446744073709551616) : mixB1 a b c d x < 18446744073709551616 := ror_lt _ _ (xor_lt _ _ hb (addW_lt _ _))
theorem mixD_lt (a b c d x y : Nat) (hd : d < 18446744073709551616) : mixD a b c d x y < 18446744073709551616 := ror_lt _ _ (xor_lt _ _ (mixD1_lt a b d x hd) (addW_lt _ _))
theorem mixB_lt (a b c d x y : Nat) (hb : b < 18446744073709551616) : mixB a b c d x y < 18446744073709551616 := ror_lt _ _ (xor_lt _ _ (mixB1_lt a b c d x hb) (addW_lt _ _))

set_option maxHeartbeats 2000000 in
theorem mix_walk (a b c d x y s1 a1 t1 d1 c1 u1 b1 s2 a2 t2 d2 c2 u2 b2 : Nat) (w : World)
    (e1 : IntKind.u64.wrap ((b : Int) + (x : Int)) = (s1 : Int)) (e2 : IntKind.u64.wrap ((a : Int) + (s1 : Int)) = (a1 : Int)) (e3 : bits BinOp.xor IntKind.u64 (d : Int) (a1 : Int) = (t1 : Int))
    (C1 : ∀ w, Calls Tryd.prog 26 #[.int .u64 (t1 : Int), .int .i64 32] w fun e w' => e = .returned (.int .u64 (d1 : Int)) ∧ w' = w)
    (e4 : IntKind.u64.wrap ((c : Int) + (d1 : Int)) = (c1 : Int)) (e5 : bits BinOp.xor IntKind.u64 (b : Int) (c1 : Int) = (u1 : Int))
    (C2 : ∀ w, Calls Tryd.prog 26 #[.int .u64 (u1 : Int), .int .i64 24] w fun e w' => e = .returned (.int .u64 (b1 : Int)) ∧ w' = w)
    (e6 : IntKind.u64.wrap ((b1 : Int) + (y : Int)) = (s2 : Int)) (e7 : IntKind.u64.wrap ((a1 : Int) + (s2 : Int)) = (a2 : Int)) (e8 : bits BinOp.xor IntKind.u64 (d1 : Int) (a2 : Int) = (t2 : Int))
    (C3 : ∀ w, Calls Tryd.prog 26 #[.int .u64 (t2 : Int), .int .i64 16] w fun e w' => e = .returned (.int .u64 (d2 : Int)) ∧ w' = w)
    (e9 : IntKind.u64.wrap ((c1 : Int) + (d2 : Int)) = (c2 : Int)) (e10 : bits BinOp.xor IntKind.u64 (b1 : Int) (c2 : Int) = (u2 : Int))
    (C4 : ∀ w, Calls Tryd.prog 26 #[.int .u64 (u2 : Int), .int .i64 63] w fun e w' => e = .returned (.int .u64 (b2 : Int)) ∧ w' = w) :
    Calls Tryd.prog 24 #[.int .u64 (a : Int), .int .u64 (b : Int), .int .u64 (c : Int), .int .u64 (d : Int), .int .u64 (x : Int), .int .u64 (y : Int)] w fun e w' => e = .returned (.tuple #[.int .u64 (a2 : Int), .int .u64 (b2 : Int), .int .u64 (c2 : Int), .int .u64 (d2 : Int)]) ∧ w' = w := by
  go_enter Tryd.func24, Tryd.ntmps24
  go_wp2_with fail
  refine (C1 _).mono ?_
  rintro e w1 ⟨rfl, rfl⟩
  go_wp2_with fail
  refine (C2 _).mono ?_
  rintro e w2 ⟨rfl, rfl⟩
  go_wp2_with fail
  refine (C3 _).mono ?_
  rintro e w3 ⟨rfl, rfl⟩
  go_wp2_with fail
  refine (C4 _).mono ?_
  rintro e w4 ⟨rfl, rfl⟩
  go_wp2
  refine bodyPost_ret (v := .tuple #[.int .u64 (a2 : Int), .int .u64 (b2 : Int), .int .u64 (c2 : Int), .int .u64 (d2 : Int)]) (by simp [results, Tryd.results24, go_sem]) rfl ⟨rfl, rfl⟩

/-- blake.mix. -/
theorem mix_any (a b c d x y : Nat) (hb : b < 18446744073709551616) (hd : d < 18446744073709551616) (w : World) :
    Calls Tryd.prog 24 #[.int .u64 (a : Int), .int .u64 (b : Int), .int .u64 (c : Int), .int .u64 (d : Int), .int .u64 (x : Int), .int .u64 (y : Int)] w fun e w' => e = .returned (.tuple #[.int .u64 ((mixA a b c d x y : Nat) : Int), .int .u64 ((mixB a b c d x y : Nat) : Int), .int .u64 ((mixC a b c d x y : Nat) : Int), .int .u64 ((mixD a b c d x y : Nat) : Int)]) ∧ w' = w :=
  mix_walk a b c d x y (addW b x) (mixA1 a b x) (d ^^^ mixA1 a b x) (mixD1 a b d x) (mixC1 a b c d x) (b ^^^ mixC1 a b c d x) (mixB1 a b c d x) (addW (mixB1 a b c d x) y) (mixA a b c d x y) (mixD1 a b d x ^^^ mixA a b c d x y) (mixD a b c d x y) (mixC a b c d x y) (mixB1 a b c d x ^^^ mixC a b c d x y) (mixB a b c d x y) w
    (wrap_addW _ _) (wrap_addW _ _) (xor_run _ _ hd (addW_lt _ _)) (fun w => turnRight32 _ (xor_lt _ _ hd (addW_lt _ _)) w)
    (wrap_addW _ _) (xor_run _ _ hb (addW_lt _ _)) (fun w => turnRight24 _ (xor_lt _ _ hb (addW_lt _ _)) w)
    (wrap_addW _ _) (wrap_addW _ _) (xor_run _ _ (mixD1_lt a b d x hd) (addW_lt _ _)) (fun w => turnRight16 _ (xor_lt _ _ (mixD1_lt a b d x hd) (addW_lt _ _)) w)
    (wrap_addW _ _) (xor_run _ _ (mixB1_lt a b c d x hb) (addW_lt _ _)) (fun w => turnRight63 _ (xor_lt _ _ (mixB1_lt a b c d x hb) (addW_lt _ _)) w)

end Go.Proofs.YtolaofoffakddaaDoor
