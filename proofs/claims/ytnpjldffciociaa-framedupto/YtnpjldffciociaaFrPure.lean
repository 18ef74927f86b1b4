import Derived.Test.YtnpjldffciociaaPure
namespace Go.Proofs.Ytnpjldffciociaa

/-- One bit of a sum falls out below. -/
def turnN (h : Nat) : Nat := if h % 2 = 1 then (h / 2) ^^^ 3988292384 else h / 2
def turnsN : Nat → Nat → Nat
  | 0, h => h
  | k + 1, h => turnN (turnsN k h)
def byteN (h : Nat) (c : UInt8) : Nat := turnsN 8 (h ^^^ c.toNat)
def sumL (l : List UInt8) (h : Nat) : Nat := l.foldl byteN h
def crcL (l : List UInt8) : Nat := 4294967295 - sumL l 4294967295
def fourL (n : Nat) : List UInt8 := [UInt8.ofNat (n / 16777216), UInt8.ofNat (n / 65536), UInt8.ofNat (n / 256), UInt8.ofNat n]
def packL (p : List UInt8) : List UInt8 := fourL (p.length % 4294967296) ++ p ++ fourL (crcL p)
def numL : List UInt8 → Nat
  | a :: b :: c :: d :: _ => ((a.toNat * 256 + b.toNat) * 256 + c.toNat) * 256 + d.toNat
  | _ => 0

theorem turnN_lt {h : Nat} (hh : h < 4294967296) : turnN h < 4294967296 := by
  unfold turnN
  split
  · exact Nat.xor_lt_two_pow (n := 32) (by omega) (by decide)
  · omega
theorem turnsN_lt (k : Nat) {h : Nat} (hh : h < 4294967296) : turnsN k h < 4294967296 := by
  induction k with
  | zero => exact hh
  | succ k ih => exact turnN_lt ih
theorem xorB_lt {h : Nat} (hh : h < 4294967296) (c : UInt8) : h ^^^ c.toNat < 4294967296 :=
  Nat.xor_lt_two_pow (n := 32) hh (Nat.lt_trans c.toNat_lt (by decide))
theorem byteN_lt {h : Nat} (hh : h < 4294967296) (c : UInt8) : byteN h c < 4294967296 := turnsN_lt 8 (xorB_lt hh c)
theorem sumL_lt (l : List UInt8) : ∀ {h : Nat}, h < 4294967296 → sumL l h < 4294967296 := by
  induction l with
  | nil => intro h hh; exact hh
  | cons c l ih => intro h hh; exact ih (byteN_lt hh c)
theorem sumL_snoc (l : List UInt8) (c : UInt8) (h : Nat) : sumL (l ++ [c]) h = byteN (sumL l h) c := by simp [sumL]
theorem sumL_append (l m : List UInt8) (h : Nat) : sumL (l ++ m) h = sumL m (sumL l h) := by simp [sumL]
theorem crcL_lt (l : List UInt8) : crcL l < 4294967296 := by unfold crcL; omega

theorem xor_inj_right {a b c : Nat} (h : a ^^^ c = b ^^^ c) : a = b := by
  have := congrArg (· ^^^ c) h
  simpa [Nat.xor_assoc] using this
theorem xor_inj_left {a b c : Nat} (h : c ^^^ a = c ^^^ b) : a = b := by
  rw [Nat.xor_comm c a, Nat.xor_comm c b] at h; exact xor_inj_right h
theorem top_bit {a : Nat} (ha : a < 2147483648) : (a ^^^ 3988292384).testBit 31 = true := by
  rw [Nat.testBit_xor, Nat.testBit_lt_two_pow (i := 31) (x := a) (by simpa using ha)]
  decide
theorem turnN_inj {a b : Nat} (ha : a < 4294967296) (hb : b < 4294967296) (h : turnN a = turnN b) : a = b := by
  unfold turnN at h
  have ha2 : a / 2 < 2147483648 := by omega
  have hb2 : b / 2 < 2147483648 := by omega
  split at h <;> split at h
  · have := xor_inj_right h; omega
  · exfalso
    have h1 := top_bit ha2
    rw [h, Nat.testBit_lt_two_pow (i := 31) (by simpa using hb2)] at h1
    simp at h1
  · exfalso
    have h1 := top_bit hb2
    rw [← h, Nat.testBit_lt_two_pow (i := 31) (by simpa using ha2)] at h1
    simp at h1
  · omega
theorem turnsN_inj (k : Nat) {a b : Nat} (ha : a < 4294967296) (hb : b < 4294967296) (h : turnsN k a = turnsN k b) : a = b := by
  induction k with
  | zero => exact h
  | succ k ih => exact ih (turnN_inj (turnsN_lt k ha) (turnsN_lt k hb) h)
theorem byteN_inj {a b : Nat} (ha : a < 4294967296) (hb : b < 4294967296) (c : UInt8) (h : byteN a c = byteN b c) : a = b :=
  xor_inj_right (turnsN_inj 8 (xorB_lt ha c) (xorB_lt hb c) h)
theorem byteN_inj' {a : Nat} (ha : a < 4294967296) (c d : UInt8) (h : byteN a c = byteN a d) : c = d :=
  UInt8.toNat.inj (xor_inj_left (turnsN_inj 8 (xorB_lt ha c) (xorB_lt ha d) h))
theorem sumL_inj (l : List UInt8) : ∀ {a b : Nat}, a < 4294967296 → b < 4294967296 → sumL l a = sumL l b → a = b := by
  induction l with
  | nil => intro a b _ _ h; exact h
  | cons c l ih => intro a b ha hb h; exact byteN_inj ha hb c (ih (byteN_lt ha c) (byteN_lt hb c) h)
/-- One byte turned: another sum. -/
theorem crcL_turned (l m : List UInt8) (c d : UInt8) (hcd : c ≠ d) : crcL (l ++ c :: m) ≠ crcL (l ++ d :: m) := by
  intro h
  have h0 : sumL l 4294967295 < 4294967296 := sumL_lt l (by decide)
  have h1 := sumL_lt (l ++ c :: m) (h := 4294967295) (by decide)
  have h2 := sumL_lt (l ++ d :: m) (h := 4294967295) (by decide)
  have h3 : sumL (l ++ c :: m) 4294967295 = sumL (l ++ d :: m) 4294967295 := by unfold crcL at h; omega
  rw [sumL_append, sumL_append] at h3
  have h4 : byteN (sumL l 4294967295) c = byteN (sumL l 4294967295) d := sumL_inj m (byteN_lt h0 c) (byteN_lt h0 d) h3
  exact hcd (byteN_inj' h0 c d h4)

theorem ofNat_toNat (n : Nat) : (UInt8.ofNat n).toNat = n % 256 := by simp
theorem fourL_length (n : Nat) : (fourL n).length = 4 := rfl
theorem packL_length (p : List UInt8) : (packL p).length = p.length + 8 := by simp [packL, fourL_length]; omega
theorem numL_four (n : Nat) (l : List UInt8) (h : n < 4294967296) : numL (fourL n ++ l) = n := by
  simp only [fourL, List.cons_append, List.nil_append, numL, ofNat_toNat]; omega
theorem fourL_num {l : List UInt8} (h : 4 ≤ l.length) : fourL (numL l) = l.take 4 := by
  match l, h with
  | a :: b :: c :: d :: r, _ =>
    have ha := a.toNat_lt; have hb := b.toNat_lt; have hc := c.toNat_lt; have hd := d.toNat_lt
    simp only [fourL, numL, List.take_succ_cons, List.take_zero]
    congr 1
    · apply UInt8.toNat.inj; rw [ofNat_toNat]; omega
    congr 1
    · apply UInt8.toNat.inj; rw [ofNat_toNat]; omega
    congr 1
    · apply UInt8.toNat.inj; rw [ofNat_toNat]; omega
    congr 1
    · apply UInt8.toNat.inj; rw [ofNat_toNat]; omega
theorem numL_lt (l : List UInt8) : numL l < 4294967296 := by
  unfold numL
  split
  · rename_i a b c d _
    have ha := a.toNat_lt; have hb := b.toNat_lt; have hc := c.toNat_lt; have hd := d.toNat_lt
    omega
  · omega

/-- What bytes begin with: none: the front of a frame; some none: it is broken; n: a frame whose payload has n bytes. -/
abbrev Fst := Option (Option Nat)
def fstL (b : List UInt8) : Fst :=
  if b.length < 4 then none
  else if numL b < 1 ∨ 1000 < numL b then some none
  else if b.length < numL b + 8 then none
  else if numL (b.drop (4 + numL b)) = crcL ((b.drop 4).take (numL b)) then some (some (numL b))
  else some none
def cutF : Nat → List UInt8 → List (List UInt8) × Nat × Bool
  | 0, _ => ([], 0, false)
  | k + 1, b => match fstL b with
    | none => ([], 0, false)
    | some none => ([], 0, true)
    | some (some n) => ((b.drop 4).take n :: (cutF k (b.drop (n + 8))).1, n + 8 + (cutF k (b.drop (n + 8))).2.1, (cutF k (b.drop (n + 8))).2.2)
/-- Unpack's answer. -/
def cutL (b : List UInt8) : List (List UInt8) × Nat × Bool := cutF (b.length + 1) b

theorem fstL_whole {b : List UInt8} {n : Nat} (h : fstL b = some (some n)) : n = numL b ∧ 1 ≤ n ∧ n ≤ 1000 ∧ n + 8 ≤ b.length ∧ numL (b.drop (4 + n)) = crcL ((b.drop 4).take n) := by
  unfold fstL at h
  split at h
  · cases h
  split at h
  · cases h
  split at h
  · cases h
  split at h
  · rename_i h1 h2 h3 h4
    cases h
    refine ⟨rfl, by omega, by omega, by omega, h4⟩
  · cases h
theorem cutF_more : ∀ (k : Nat) (b : List UInt8), b.length + 1 ≤ k → cutF k b = cutL b := by
  intro k
  induction k using Nat.strongRecOn with
  | _ k ih =>
    intro b hk
    match k, hk with
    | k + 1, hk =>
      unfold cutL
      show (match fstL b with
        | none => ([], 0, false)
        | some none => ([], 0, true)
        | some (some n) => ((b.drop 4).take n :: (cutF k (b.drop (n + 8))).1, n + 8 + (cutF k (b.drop (n + 8))).2.1, (cutF k (b.drop (n + 8))).2.2)) = (match fstL b with
        | none => ([], 0, false)
        | some none => ([], 0, true)
        | some (some n) => ((b.drop 4).take n :: (cutF b.length (b.drop (n + 8))).1, n + 8 + (cutF b.length (b.drop (n + 8))).2.1, (cutF b.length (b.drop (n + 8))).2.2))
      match h : fstL b with
      | none => rfl
      | some none => rfl
      | some (some n) =>
        have hw := fstL_whole h
        have h1 : cutF k (b.drop (n + 8)) = cutL (b.drop (n + 8)) := ih k (by omega) _ (by simp; omega)
        have h2 : cutF b.length (b.drop (n + 8)) = cutL (b.drop (n + 8)) := by
          by_cases he : b.length = k
          · rw [he]; exact h1
          · exact ih b.length (by omega) _ (by simp; omega)
        simp only [h1, h2]
theorem cutL_front {b : List UInt8} (h : fstL b = none) : cutL b = ([], 0, false) := by
  unfold cutL cutF; simp [h]
theorem cutL_broken {b : List UInt8} (h : fstL b = some none) : cutL b = ([], 0, true) := by
  unfold cutL cutF; simp [h]
theorem cutL_whole {b : List UInt8} {n : Nat} (h : fstL b = some (some n)) : cutL b = ((b.drop 4).take n :: (cutL (b.drop (n + 8))).1, n + 8 + (cutL (b.drop (n + 8))).2.1, (cutL (b.drop (n + 8))).2.2) := by
  have hw := fstL_whole h
  have h2 : cutF b.length (b.drop (n + 8)) = cutL (b.drop (n + 8)) := cutF_more _ _ (by simp; omega)
  conv => lhs; unfold cutL cutF
  simp only [h, h2]
/-- The frame, made anew. -/
theorem fstL_made {b : List UInt8} (h4 : 4 ≤ b.length) (h8 : numL b + 8 ≤ b.length) :
    (b.take (numL b + 8) = packL ((b.drop 4).take (numL b))) ↔ numL (b.drop (4 + numL b)) = crcL ((b.drop 4).take (numL b)) := by
  have hlen : ((b.drop 4).take (numL b)).length = numL b := by simp; omega
  have hsplit : b.take (numL b + 8) = fourL (numL b) ++ (b.drop 4).take (numL b) ++ (b.drop (4 + numL b)).take 4 := by
    rw [fourL_num h4, ← List.take_add, ← List.take_add]
    congr 1; omega
  have hmod : numL b % 4294967296 = numL b := Nat.mod_eq_of_lt (numL_lt b)
  rw [hsplit, packL, hlen, hmod]
  constructor
  · intro h
    have := List.append_cancel_left h
    have h5 : fourL (numL (b.drop (4 + numL b))) = fourL (crcL ((b.drop 4).take (numL b))) := by
      rw [fourL_num (by simp; omega)]; exact this
    have h6 := congrArg (fun l => numL (l ++ [])) h5
    simp only [numL_four _ [] (numL_lt _), numL_four _ [] (crcL_lt _)] at h6
    exact h6
  · intro h
    have h5 : fourL (numL (b.drop (4 + numL b))) = (b.drop (4 + numL b)).take 4 := fourL_num (by simp; omega)
    rw [← h, h5]

/-- The invariant of both loops that unpack. -/
def Went (b : List UInt8) (at' : Nat) (l : List (List UInt8)) : Prop :=
  at' ≤ b.length ∧ cutL b = (l ++ (cutL (b.drop at')).1, at' + (cutL (b.drop at')).2.1, (cutL (b.drop at')).2.2)
theorem Went.start (b : List UInt8) : Went b 0 [] := ⟨Nat.zero_le _, by simp⟩
theorem Went.step {b : List UInt8} {k n : Nat} {l : List (List UInt8)} (h : Went b k l) (hw : fstL (b.drop k) = some (some n)) : Went b (k + n + 8) (l ++ [((b.drop k).drop 4).take n]) := by
  have hh := fstL_whole hw
  have hlen : n + 8 ≤ b.length - k := by simpa using hh.2.2.2.1
  refine ⟨by have := h.1; omega, ?_⟩
  rw [h.2, cutL_whole hw]
  have : (b.drop k).drop (n + 8) = b.drop (k + n + 8) := by rw [List.drop_drop, Nat.add_assoc]
  simp [this]; omega
theorem Went.front {b : List UInt8} {k : Nat} {l : List (List UInt8)} (h : Went b k l) (hw : fstL (b.drop k) = none) : cutL b = (l, k, false) := by
  rw [h.2, cutL_front hw]; simp
theorem Went.broken {b : List UInt8} {k : Nat} {l : List (List UInt8)} (h : Went b k l) (hw : fstL (b.drop k) = some none) : cutL b = (l, k, true) := by
  rw [h.2, cutL_broken hw]; simp
end Go.Proofs.Ytnpjldffciociaa
