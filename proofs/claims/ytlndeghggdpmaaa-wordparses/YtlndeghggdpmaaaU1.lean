/- Reading numbers out of texts: what is to be answered, as arithmetic. -/
import Derived.Test.YtlndeghggdpmaaaT1
import Derived.Laws.RangeAny
namespace Go.Proofs.Ytlndeghggdpmaaa


/-- The value of a rune as a digit of a base. -/
def digV (b r : Nat) : Option Nat :=
  if 48 ≤ r ∧ r ≤ 57 then some (r - 48) else if 65296 ≤ r ∧ r ≤ 65305 then some (r - 65296) else if b = 16 ∧ 97 ≤ r ∧ r ≤ 102 then some (r - 87) else if b = 16 ∧ 65 ≤ r ∧ r ≤ 70 then some (r - 55) else none
theorem digV_lt {b r d : Nat} (h : digV b r = some d) : d < 16 := by
  unfold digV at h
  split at h
  · simp at h; omega
  · split at h
    · simp at h; omega
    · split at h
      · simp at h; omega
      · split at h
        · simp at h; omega
        · cases h
theorem digV_95 (b : Nat) : digV b 95 = none := by
  unfold digV
  rw [if_neg (by omega), if_neg (by omega), if_neg (by omega), if_neg (by omega)]
def stepN (b num d : Nat) : Nat := (num * b + d) % 115792089237316195423570985008687907853269984665640564039457584007913129639936
def stepL (b num d : Nat) : Bool := decide (115792089237316195423570985008687907853269984665640564039457584007913129639936 ≤ num * b + d)
theorem stepN_lt (b num d : Nat) : stepN b num d < 115792089237316195423570985008687907853269984665640564039457584007913129639936 := Nat.mod_lt _ (by decide)
/-- What is read from a place on: the number so far, whether it was too great, whether a digit was the last. -/
def parseGo (b : Nat) (s : ByteArray) : Nat → Nat → Nat → Bool → Bool → Nat × Nat
  | 0, _, _, _, _ => (0, 11)
  | f + 1, pos, num, lg, af =>
    if pos < s.size then
      if (Utf8.decode s pos).1 = 95 ∧ af = true then parseGo b s f (pos + (Utf8.decode s pos).2) num lg false
      else match digV b (Utf8.decode s pos).1 with
        | none => (0, 11)
        | some d => parseGo b s f (pos + (Utf8.decode s pos).2) (stepN b num d) (lg || stepL b num d) true
    else if af = false then (0, 11) else if lg = true then (0, 12) else (num, 0)
theorem parseGo_end (b : Nat) (s : ByteArray) (f pos num : Nat) (lg af : Bool) (h : ¬ pos < s.size) : parseGo b s (f + 1) pos num lg af = if af = false then (0, 11) else if lg = true then (0, 12) else (num, 0) := by
  show (if pos < s.size then _ else _) = _
  rw [if_neg h]
theorem parseGo_line (b : Nat) (s : ByteArray) (f pos num : Nat) (lg : Bool) (h : pos < s.size) (h1 : (Utf8.decode s pos).1 = 95) : parseGo b s (f + 1) pos num lg true = parseGo b s f (pos + (Utf8.decode s pos).2) num lg false := by
  show (if pos < s.size then _ else _) = _
  rw [if_pos h, if_pos ⟨h1, rfl⟩]
theorem parseGo_none (b : Nat) (s : ByteArray) (f pos num : Nat) (lg af : Bool) (h : pos < s.size) (h1 : ¬ ((Utf8.decode s pos).1 = 95 ∧ af = true)) (h2 : digV b (Utf8.decode s pos).1 = none) : parseGo b s (f + 1) pos num lg af = (0, 11) := by
  show (if pos < s.size then _ else _) = _
  rw [if_pos h, if_neg h1, h2]
theorem parseGo_some (b : Nat) (s : ByteArray) (f pos num d : Nat) (lg af : Bool) (h : pos < s.size) (h2 : digV b (Utf8.decode s pos).1 = some d) : parseGo b s (f + 1) pos num lg af = parseGo b s f (pos + (Utf8.decode s pos).2) (stepN b num d) (lg || stepL b num d) true := by
  show (if pos < s.size then _ else _) = _
  have h1 : ¬ ((Utf8.decode s pos).1 = 95 ∧ af = true) := by
    rintro ⟨h3, _⟩
    rw [h3, digV_95] at h2
    cases h2
  rw [if_pos h, if_neg h1, h2]
theorem decode_width (s : ByteArray) (pos : Nat) (h : pos < s.size) : 1 ≤ (Utf8.decode s pos).2 := by
  by_cases ha : (s[pos]'h).toNat < 128
  · rw [decode_ascii s pos h ha]; exact Nat.le_refl _
  · exact (decode_high s pos h (by omega)).2
/-- Does a text begin with 0x? -/
def has0x (s : ByteArray) : Bool := decide (2 ≤ s.size) && ((s.extract 0 2).toList == [48, 120])
/-- What Parse answers: the number and the error. -/
def parse0 (s : ByteArray) : Nat × Nat :=
  if 100000 < s.size then (0, 12) else if has0x s = true then parseGo 16 (s.extract 2 s.size) ((s.extract 2 s.size).size + 1) 0 0 false false else parseGo 10 s (s.size + 1) 0 0 false false
theorem parseGo_lt (b : Nat) (s : ByteArray) : ∀ f pos num lg af, num < 115792089237316195423570985008687907853269984665640564039457584007913129639936 → (parseGo b s f pos num lg af).1 < 115792089237316195423570985008687907853269984665640564039457584007913129639936
  | 0, _, _, _, _, _ => by show 0 < _; decide
  | f + 1, pos, num, lg, af, h => by
    by_cases hp : pos < s.size
    · by_cases h1 : (Utf8.decode s pos).1 = 95 ∧ af = true
      · obtain ⟨h1, rfl⟩ := h1
        rw [parseGo_line b s f pos num lg hp h1]
        exact parseGo_lt b s f _ _ _ _ h
      · cases h2 : digV b (Utf8.decode s pos).1 with
        | none => rw [parseGo_none b s f pos num lg af hp h1 h2]; decide
        | some d => rw [parseGo_some b s f pos num d lg af hp h2]; exact parseGo_lt b s f _ _ _ _ (stepN_lt _ _ _)
    · rw [parseGo_end b s f pos num lg af hp]
      split
      · decide
      · split
        · decide
        · exact h
theorem parse0_lt (s : ByteArray) : (parse0 s).1 < 115792089237316195423570985008687907853269984665640564039457584007913129639936 := by
  unfold parse0
  split
  · decide
  · split
    · exact parseGo_lt _ _ _ _ _ _ _ (by decide)
    · exact parseGo_lt _ _ _ _ _ _ _ (by decide)

end Go.Proofs.Ytlndeghggdpmaaa
