/- CRC-32, of bytes as numbers: one that is turned turns the sum. No walk. -/
import Derived.WalkKit
namespace Go.Proofs.Ytghnephjgffenaa
set_option linter.unusedVariables false
set_option linter.unusedSimpArgs false
set_option maxRecDepth 100000

theorem xor_right {a b p : Nat} (h : a ^^^ p = b ^^^ p) : a = b := by
  have h2 := congrArg (· ^^^ p) h
  simpa [Nat.xor_assoc] using h2
theorem xor_left {a b p : Nat} (h : p ^^^ a = p ^^^ b) : a = b := xor_right (p := p) (by rw [Nat.xor_comm a p, Nat.xor_comm b p]; exact h)
def crcP : Nat := 3988292384
/-- One bit of the sum. -/
def bitS (c : Nat) : Nat := if c % 2 = 1 then (c / 2) ^^^ crcP else c / 2
theorem bitS_lt {c : Nat} (h : c < 2 ^ 32) : bitS c < 2 ^ 32 := by
  unfold bitS
  split
  · exact Nat.xor_lt_two_pow (by omega) (by decide)
  · omega
theorem xorP_hi {a : Nat} (h : a < 2 ^ 31) : (a ^^^ crcP).testBit 31 = true := by
  rw [Nat.testBit_xor, Nat.testBit_lt_two_pow h]; decide
theorem bitS_inj {c d : Nat} (hc : c < 2 ^ 32) (hd : d < 2 ^ 32) (h : bitS c = bitS d) : c = d := by
  unfold bitS at h
  have h1 : (c / 2) < 2 ^ 31 := by omega
  have h2 : (d / 2) < 2 ^ 31 := by omega
  by_cases e : c % 2 = 1 <;> by_cases f : d % 2 = 1
  · rw [if_pos e, if_pos f] at h
    have : c / 2 = d / 2 := xor_right h
    omega
  · rw [if_pos e, if_neg f] at h
    have := xorP_hi h1
    rw [h, Nat.testBit_lt_two_pow h2] at this
    cases this
  · rw [if_neg e, if_pos f] at h
    have := xorP_hi h2
    rw [← h, Nat.testBit_lt_two_pow h1] at this
    cases this
  · rw [if_neg e, if_neg f] at h
    omega
/-- n bits. -/
def bitsS : Nat → Nat → Nat
  | 0, c => c
  | n + 1, c => bitsS n (bitS c)
theorem bitsS_lt (n : Nat) : ∀ {c : Nat}, c < 2 ^ 32 → bitsS n c < 2 ^ 32 := by
  induction n with
  | zero => intro c h; exact h
  | succ n ih => intro c h; exact ih (bitS_lt h)
theorem bitsS_inj (n : Nat) : ∀ {c d : Nat}, c < 2 ^ 32 → d < 2 ^ 32 → bitsS n c = bitsS n d → c = d := by
  induction n with
  | zero => intro c d _ _ h; exact h
  | succ n ih => intro c d hc hd h; exact bitS_inj hc hd (ih (bitS_lt hc) (bitS_lt hd) h)
theorem bitsS_succ (n : Nat) : ∀ c, bitsS (n + 1) c = bitS (bitsS n c) := by
  induction n with
  | zero => intro c; rfl
  | succ n ih => intro c; exact ih (bitS c)
/-- One byte. -/
def byteS (c b : Nat) : Nat := bitsS 8 (c ^^^ b)
theorem byteS_lt {c b : Nat} (hc : c < 2 ^ 32) (hb : b < 2 ^ 8) : byteS c b < 2 ^ 32 :=
  bitsS_lt 8 (Nat.xor_lt_two_pow hc (by omega))
theorem byteS_inj {c d b e : Nat} (hc : c < 2 ^ 32) (hd : d < 2 ^ 32) (hb : b < 2 ^ 8) (he : e < 2 ^ 8) (h : byteS c b = byteS d e) : c ^^^ b = d ^^^ e :=
  bitsS_inj 8 (Nat.xor_lt_two_pow hc (by omega)) (Nat.xor_lt_two_pow hd (by omega)) h
/-- The state behind some bytes. -/
def sumS (c : Nat) (l : List Nat) : Nat := l.foldl byteS c
theorem sumS_lt (l : List Nat) : ∀ {c : Nat}, c < 2 ^ 32 → (∀ b ∈ l, b < 2 ^ 8) → sumS c l < 2 ^ 32 := by
  induction l with
  | nil => intro c h _; exact h
  | cons b l ih => intro c h hl; exact ih (byteS_lt h (hl b (by simp))) (fun x hx => hl x (by simp [hx]))
theorem sumS_inj (l : List Nat) : ∀ {c d : Nat}, c < 2 ^ 32 → d < 2 ^ 32 → (∀ b ∈ l, b < 2 ^ 8) → sumS c l = sumS d l → c = d := by
  induction l with
  | nil => intro c d _ _ _ h; exact h
  | cons b l ih =>
    intro c d hc hd hl h
    have hb := hl b (by simp)
    have := byteS_inj hc hd hb hb (ih (byteS_lt hc hb) (byteS_lt hd hb) (fun x hx => hl x (by simp [hx])) h)
    exact xor_right this
theorem sumS_turn {c x y : Nat} (p q : List Nat) (hc : c < 2 ^ 32) (hp : ∀ b ∈ p, b < 2 ^ 8) (hq : ∀ b ∈ q, b < 2 ^ 8) (hx : x < 2 ^ 8) (hy : y < 2 ^ 8) (hn : x ≠ y) : sumS c (p ++ x :: q) ≠ sumS c (p ++ y :: q) := by
  intro h
  unfold sumS at h
  rw [List.foldl_append, List.foldl_append, List.foldl_cons, List.foldl_cons] at h
  have hs := sumS_lt p hc hp
  have h2 := sumS_inj q (byteS_lt hs hx) (byteS_lt hs hy) hq h
  exact hn (xor_left (byteS_inj hs hs hx hy h2))
/-- The sum of bytes. -/
def crcS (l : List Nat) : Nat := sumS 4294967295 l ^^^ 4294967295
theorem crcS_lt {l : List Nat} (h : ∀ b ∈ l, b < 2 ^ 8) : crcS l < 2 ^ 32 := Nat.xor_lt_two_pow (sumS_lt l (by decide) h) (by decide)
theorem crcS_turn {x y : Nat} (p q : List Nat) (hp : ∀ b ∈ p, b < 2 ^ 8) (hq : ∀ b ∈ q, b < 2 ^ 8) (hx : x < 2 ^ 8) (hy : y < 2 ^ 8) (hn : x ≠ y) : crcS (p ++ x :: q) ≠ crcS (p ++ y :: q) := fun h =>
  sumS_turn (c := 4294967295) p q (by decide) hp hq hx hy hn (xor_right h)
theorem crc_up : crcS [49, 50, 51, 52, 53, 54, 55, 56, 57] = 3421780262 := by decide +kernel
end Go.Proofs.Ytghnephjgffenaa
