import Derived.Test.YtnpjldffciociaaGreatDoorB09
namespace Go.Proofs.YtnpjldffciociaaGreatDoor

/-- A condition, as it was read. -/
structure Cnd where
  kids : List Cnd
  leaf : Option (Sum (Nat × Bool) (Sum (Nat × Nat) (Nat × Nat × Nat × Nat)))
abbrev Cnd.any : Cnd := ⟨[], none⟩
abbrev Cnd.val (a : Nat) (b : Bool) : Cnd := ⟨[], some (.inl (a, b))⟩
abbrev Cnd.same (a b : Nat) : Cnd := ⟨[], some (.inr (.inl (a, b)))⟩
abbrev Cnd.isin (a t m o : Nat) : Cnd := ⟨[], some (.inr (.inr (a, t, m, o)))⟩
abbrev Cnd.neg (c : Cnd) : Cnd := ⟨[c], none⟩
abbrev Cnd.two (c d : Cnd) : Cnd := ⟨[c, d], none⟩
theorem Cnd.ind {P : Cnd → Prop} (any : P .any) (val : ∀ a b, P (.val a b)) (same : ∀ a b, P (.same a b)) (isin : ∀ a t m o, P (.isin a t m o)) (neg : ∀ l c, P c → P ⟨[c], l⟩) (two : ∀ l c d, P c → P d → P ⟨[c, d], l⟩) (more : ∀ c d e r l, P ⟨c :: d :: e :: r, l⟩) : ∀ c, P c
  | ⟨[], none⟩ => any
  | ⟨[], some (.inl (a, b))⟩ => val a b
  | ⟨[], some (.inr (.inl (a, b)))⟩ => same a b
  | ⟨[], some (.inr (.inr (a, t, m, o)))⟩ => isin a t m o
  | ⟨[c], l⟩ => neg l c (Cnd.ind any val same isin neg two more c)
  | ⟨[c, d], l⟩ => two l c d (Cnd.ind any val same isin neg two more c) (Cnd.ind any val same isin neg two more d)
  | ⟨c :: d :: e :: r, l⟩ => more c d e r l

def parseC (ts : List (List UInt8 × List Bool)) (law : Bool) (ws : List (List UInt8)) : Nat → Nat → Option (Cnd × Nat)
  | 0, _ => none
  | k + 1, i =>
    match cword (wordAt ws i) with
    | .inr (some (false, false)) => some (.any, i + 1)
    | .inl m => match colRaw (wordAt ws (i + 1)) with
      | none => none
      | some a =>
        if m = 0 then (if wordAt ws (i + 2) = wMe then some (.val a true, i + 3) else match valKind (wordAt ws (i + 2)) with
          | none => none
          | some b => some (.val a b, i + 3))
        else if m = 1 then (if valKind (wordAt ws (i + 2)) = some false then some (.val a false, i + 3) else none)
        else match colRaw (wordAt ws (i + 2)) with
          | none => none
          | some b => some (.same a b, i + 3)
    | .inr (some (false, true)) => if law then (match colRaw (wordAt ws (i + 1)) with
        | none => none
        | some a => match findT ts (wordAt ws (i + 2)) with
          | none => none
          | some t => match colRaw (wordAt ws (i + 3)) with
            | none => none
            | some m => match colRaw (wordAt ws (i + 4)) with
              | none => none
              | some o => some (.isin a t m o, i + 5)) else none
    | .inr (some (true, false)) => match parseC ts law ws k (i + 1) with
      | none => none
      | some (c, j) => some (.neg c, j)
    | .inr (some (true, true)) => match parseC ts law ws k (i + 1) with
      | none => none
      | some (c, j) => match parseC ts law ws k j with
        | none => none
        | some (d, j2) => some (.two c d, j2)
    | .inr none => none

def fitC (ts : List (List UInt8 × List Bool)) (text : List Bool) : Cnd → Bool
  | ⟨[], none⟩ => true
  | ⟨[], some (.inl (a, b))⟩ => text[a]? == some b
  | ⟨[], some (.inr (.inl (a, b)))⟩ => text[a]?.isSome && (text[a]? == text[b]?)
  | ⟨[], some (.inr (.inr (a, t, m, o)))⟩ => text[a]?.isSome && (text[a]? == (ts.getD t ([], [])).2[m]?) && ((ts.getD t ([], [])).2[o]? == some true)
  | ⟨[c], _⟩ => fitC ts text c
  | ⟨[c, d], _⟩ => fitC ts text c && fitC ts text d
  | ⟨_ :: _ :: _ :: _, _⟩ => false

theorem word_lt {ws : List (List UInt8)} {i : Nat} (h : wordAt ws i ≠ []) : i < ws.length := by
  rcases Nat.lt_or_ge i ws.length with h' | h'
  · exact h'
  · exact absurd (by simp [wordAt, Nat.not_lt.2 h']) h
theorem word_drop {ws : List (List UInt8)} {i : Nat} (h : i < ws.length) : ws.drop i = wordAt ws i :: ws.drop (i + 1) := by
  rw [List.drop_eq_getElem_cons h]; simp [wordAt, h]
theorem cword_nil : cword [] = .none := by simp [cword]
theorem colRaw_nil : colRaw [] = none := rfl
theorem valKind_nil : valKind [] = none := by simp [valKind, isNum, stripMinus, numOk, isTextL]
theorem colRaw_lt {ws : List (List UInt8)} {i a : Nat} (h : colRaw (wordAt ws i) = some a) : i < ws.length := word_lt (fun e => by rw [e, colRaw_nil] at h; cases h)
theorem valKind_lt {ws : List (List UInt8)} {i : Nat} {b : Bool} (h : valKind (wordAt ws i) = some b) : i < ws.length := word_lt (fun e => by rw [e, valKind_nil] at h; cases h)
theorem cword_lt' {ws : List (List UInt8)} {i : Nat} (h : cword (wordAt ws i) ≠ .none) : i < ws.length := word_lt (fun e => h (by rw [e, cword_nil]))

theorem parse_len (ts : List (List UInt8 × List Bool)) (law : Bool) (ws : List (List UInt8)) : ∀ (k i : Nat) (c : Cnd) (j : Nat), parseC ts law ws k i = some (c, j) → i < j ∧ j ≤ ws.length ∧ condLen (ws.drop i) = some (j - i) := by
  intro k
  induction k with
  | zero => intro i c j h; cases h
  | succ k ih =>
    intro i c j h
    rw [parseC] at h
    have hlt : i < ws.length := cword_lt' (fun e => by rw [e] at h; cases h)
    rw [word_drop hlt, condLen_cons]
    split at h
    · rename_i e; cases h; rw [e]; refine ⟨by omega, by omega, by simp⟩
    · rename_i m e
      rw [e]
      split at h
      · cases h
      · rename_i a ha
        have h1 := colRaw_lt ha
        split at h
        · split at h
          · rename_i e2; cases h
            have h2 := word_lt (ws := ws) (i := i + 2) (by rw [e2]; simp)
            exact ⟨by omega, by omega, by simp⟩
          · split at h
            · cases h
            · rename_i hb; cases h
              have h2 := valKind_lt hb
              exact ⟨by omega, by omega, by simp⟩
        · split at h
          · split at h
            · rename_i hb; cases h
              have h2 := valKind_lt hb
              exact ⟨by omega, by omega, by simp⟩
            · cases h
          · split at h
            · cases h
            · rename_i hb; cases h
              have h2 := colRaw_lt hb
              exact ⟨by omega, by omega, by simp⟩
    · rename_i e
      rw [e]
      split at h
      · split at h
        · cases h
        · split at h
          · cases h
          · split at h
            · cases h
            · split at h
              · cases h
              · rename_i ho; cases h
                have h2 := colRaw_lt ho
                exact ⟨by omega, by omega, by simp⟩
      · cases h
    · rename_i e
      rw [e]
      split at h
      · cases h
      · rename_i c' j' hc; cases h
        obtain ⟨h1, h2, h3⟩ := ih _ _ _ hc
        rw [h3]
        exact ⟨by omega, h2, by simp; omega⟩
    · rename_i e
      rw [e]
      split at h
      · cases h
      · rename_i c' j' hc
        obtain ⟨h1, h2, h3⟩ := ih _ _ _ hc
        split at h
        · cases h
        · rename_i d' j2 hd; cases h
          obtain ⟨g1, g2, g3⟩ := ih _ _ _ hd
          rw [h3]
          simp only
          rw [List.drop_drop, show i + 1 + (j' - (i + 1)) = j' by omega, g3]
          exact ⟨by omega, g2, by simp; omega⟩
    · cases h
end Go.Proofs.YtnpjldffciociaaGreatDoor
namespace Go.Proofs.YtnpjldffciociaaGreatDoor

theorem colOf_raw (x : List UInt8) (n : Nat) (_hn : n ≤ 9) : colOf x n = match colRaw x with
    | none => none
    | some a => if a < n then some a else none := by
  unfold colRaw colOf
  split
  · rename_i c
    by_cases h : 49 ≤ c.toNat ∧ c.toNat ≤ 57
    · rw [if_pos (show 49 ≤ c.toNat ∧ c.toNat ≤ 57 ∧ c.toNat - 48 ≤ 9 by omega)]
      simp only
      by_cases h2 : c.toNat - 49 < n
      · rw [if_pos (by omega), if_pos h2]
      · rw [if_neg (by omega), if_neg h2]
    · rw [if_neg (by omega), if_neg (by omega)]
  · rfl
theorem getD_lt {l : List Bool} {a : Nat} (h : a < l.length) : l[a]? = some (l.getD a false) := by simp [List.getD, h]
theorem getD_ge {l : List Bool} {a : Nat} (h : ¬ a < l.length) : l[a]? = none := by simp; omega
theorem valKind_me : valKind wMe = none := by decide

theorem three_fit (text : List Bool) (ht : text.length ≤ 9) (x1 x2 : List UInt8) (a : Nat) (ha : colRaw x1 = some a) :
    (x2 = wMe → threeP text 0 x1 x2 = (text[a]? == some true)) ∧ (∀ b, valKind x2 = some b → threeP text 0 x1 x2 = (text[a]? == some b)) ∧
    (valKind x2 = some false → threeP text 1 x1 x2 = (text[a]? == some false)) ∧ (∀ b, colRaw x2 = some b → ∀ m, m ≠ 0 → m ≠ 1 → threeP text m x1 x2 = (text[a]?.isSome && (text[a]? == text[b]?))) := by
  have hc := colOf_raw x1 text.length ht
  rw [ha] at hc
  simp only at hc
  by_cases h : a < text.length
  · rw [if_pos h] at hc
    have hg := getD_lt h
    refine ⟨?_, ?_, ?_, ?_⟩
    · rintro rfl
      unfold threeP
      rw [hc, hg, valKind_me]
      simp only []
      generalize text.getD a false = y
      cases y <;> rfl
    · intro b hb
      unfold threeP
      rw [hc, hg, hb]
      have hne : (x2 == wMe) = false := by
        cases e : x2 == wMe
        · rfl
        · have : x2 = wMe := by simpa using e
          rw [this, valKind_me] at hb; cases hb
      rw [hne]
      simp only []
      generalize text.getD a false = y
      cases y <;> cases b <;> rfl
    · intro hb
      unfold threeP
      rw [hc, hg, hb]
      simp only []
      generalize text.getD a false = y
      cases y <;> rfl
    · intro b hb m h0 h1
      have hc2 := colOf_raw x2 text.length ht
      rw [hb] at hc2
      simp only at hc2
      unfold threeP
      rw [hc]
      simp only [if_neg h0, if_neg h1]
      by_cases h2 : b < text.length
      · rw [if_pos h2] at hc2
        rw [hc2, hg, getD_lt h2]
        simp only []
        generalize text.getD a false = y
        generalize text.getD b false = z
        cases y <;> cases z <;> rfl
      · rw [if_neg h2] at hc2
        rw [hc2, hg, getD_ge h2]
        generalize text.getD a false = y
        cases y <;> rfl
  · rw [if_neg h] at hc
    have hg := getD_ge h
    refine ⟨?_, ?_, ?_, ?_⟩
    · intro _; unfold threeP; rw [hc, hg]; rfl
    · intro b _; unfold threeP; rw [hc, hg]; rfl
    · intro _; unfold threeP; rw [hc, hg]; rfl
    · intro b _ m _ _; unfold threeP; rw [hc, hg]; rfl
theorem in_fit (ts : List (List UInt8 × List Bool)) (text : List Bool) (ht : text.length ≤ 9) (hts : ∀ t, (ts.getD t ([], [])).2.length ≤ 9) (x1 x2 x3 x4 : List UInt8) (a t m o : Nat)
    (ha : colRaw x1 = some a) (hf : findT ts x2 = some t) (hm : colRaw x3 = some m) (ho : colRaw x4 = some o) :
    inP ts text true x1 x2 x3 x4 = fitC ts text (.isin a t m o) := by
  have hc := colOf_raw x1 text.length ht
  have hcm := colOf_raw x3 _ (hts t)
  have hco := colOf_raw x4 _ (hts t)
  rw [ha] at hc
  rw [hm] at hcm
  rw [ho] at hco
  simp only at hc hcm hco
  unfold inP fitC
  by_cases h : a < text.length
  · rw [if_pos h] at hc
    rw [hc, getD_lt h]
    simp only [isInP, hf]
    generalize (ts.getD t ([], [])).2 = L at *
    by_cases h1 : m < L.length
    · rw [if_pos h1] at hcm
      by_cases h2 : o < L.length
      · rw [if_pos h2] at hco
        rw [hcm, hco, getD_lt h1, getD_lt h2]
        simp only []
        generalize text.getD a false = y
        generalize L.getD m false = u
        generalize L.getD o false = v
        cases y <;> cases u <;> cases v <;> rfl
      · rw [if_neg h2] at hco
        rw [hcm, hco, getD_ge h2]
        simp
    · rw [if_neg h1] at hcm
      rw [hcm, getD_ge h1]
      simp
  · rw [if_neg h] at hc
    rw [hc, getD_ge h]
    rfl
theorem parse_fit (ts : List (List UInt8 × List Bool)) (text : List Bool) (law : Bool) (ws : List (List UInt8)) (ht : text.length ≤ 9) (hts : ∀ t, (ts.getD t ([], [])).2.length ≤ 9) :
    ∀ (k i : Nat) (c : Cnd) (j : Nat), parseC ts law ws k i = some (c, j) → condP ts text law (ws.drop i) = fitC ts text c := by
  intro k
  induction k with
  | zero => intro i c j h; cases h
  | succ k ih =>
    intro i c j h
    have hall := h
    rw [parseC] at h
    have hlt : i < ws.length := cword_lt' (fun e => by rw [e] at h; cases h)
    rw [word_drop hlt, condP_cons]
    split at h
    · rename_i e; cases h; rw [e]; rfl
    · rename_i m e
      rw [e]
      simp only [wordAt_drop2]
      split at h
      · cases h
      · rename_i a ha
        have h3 := three_fit text ht (wordAt ws (i + 1 + 0)) (wordAt ws (i + 1 + 1)) a ha
        split at h
        · rename_i hm0
          subst hm0
          split at h
          · rename_i e2; cases h
            exact h3.1 e2
          · split at h
            · cases h
            · rename_i hb; cases h
              exact h3.2.1 _ hb
        · rename_i hm0
          split at h
          · rename_i hm1
            subst hm1
            split at h
            · rename_i hb; cases h
              exact h3.2.2.1 hb
            · cases h
          · rename_i hm1
            split at h
            · cases h
            · rename_i hb; cases h
              exact h3.2.2.2 _ hb m hm0 hm1
    · rename_i e
      rw [e]
      simp only [wordAt_drop2]
      split at h
      · rename_i hlaw
        split at h
        · cases h
        · rename_i ha
          split at h
          · cases h
          · rename_i hf
            split at h
            · cases h
            · rename_i hm
              split at h
              · cases h
              · rename_i ho; cases h
                rw [hlaw]
                exact in_fit ts text ht hts _ _ _ _ _ _ _ _ ha hf hm ho
      · cases h
    · rename_i e
      rw [e]
      split at h
      · cases h
      · rename_i hc; cases h
        have hh := ih _ _ _ hc
        exact hh
    · rename_i e
      rw [e]
      split at h
      · cases h
      · rename_i c' j' hc
        obtain ⟨h1, h2, h3⟩ := parse_len ts law ws _ _ _ _ hc
        split at h
        · cases h
        · rename_i hd; cases h
          simp only [h3]
          rw [List.drop_drop, show i + 1 + (j' - (i + 1)) = j' by omega, ih _ _ _ hc, ih _ _ _ hd]
          rfl
    · cases h
theorem parse_none (ts : List (List UInt8 × List Bool)) (text : List Bool) (law : Bool) (ws : List (List UInt8)) (ht : text.length ≤ 9) (hts : ∀ t, (ts.getD t ([], [])).2.length ≤ 9) :
    ∀ (k i : Nat), ws.length < i + k → parseC ts law ws k i = none → ∀ n, condLen (ws.drop i) = some n → i + n ≤ ws.length → condP ts text law (ws.drop i) = false := by
  intro k
  induction k with
  | zero =>
    intro i hk _ n hn _
    rw [List.drop_of_length_le (by omega)] at hn
    simp [condLen_nil] at hn
  | succ k ih =>
    intro i hk h n hn hin
    have hlt : i < ws.length := by
      rcases Nat.lt_or_ge i ws.length with h' | h'
      · exact h'
      · rw [List.drop_of_length_le h'] at hn; simp [condLen_nil] at hn
    rw [parseC] at h
    rw [word_drop hlt, condP_cons]
    rw [word_drop hlt, condLen_cons] at hn
    split at h
    · cases h
    · rename_i m e
      rw [e] at hn ⊢
      simp only [wordAt_drop2]
      have hcx := colOf_raw (wordAt ws (i + 1 + 0)) text.length ht
      split at h
      · rename_i ha
        have ha' : colRaw (wordAt ws (i + 1 + 0)) = none := ha
        rw [ha'] at hcx
        unfold threeP; rw [hcx]
      · rename_i a ha
        have ha' : colRaw (wordAt ws (i + 1 + 0)) = some a := ha
        rw [ha'] at hcx
        simp only at hcx
        unfold threeP
        rw [hcx]
        by_cases hal : a < text.length
        · rw [if_pos hal]
          simp only
          split at h
          · rename_i hm0
            rw [if_pos hm0]
            split at h
            · cases h
            · rename_i hme
              split at h
              · rename_i hv
                have hv' : valKind (wordAt ws (i + 1 + 1)) = none := hv
                have hme' : (wordAt ws (i + 1 + 1) == wMe) = false := by simpa using hme
                rw [hv', hme']
                rfl
              · cases h
          · rename_i hm0
            rw [if_neg hm0]
            split at h
            · rename_i hm1
              rw [if_pos hm1]
              split at h
              · cases h
              · rename_i hv
                have hv' : (valKind (wordAt ws (i + 1 + 1)) == some false) = false := by
                  cases e2 : (valKind (wordAt ws (i + 1 + 1)) == some false)
                  · rfl
                  · exact absurd (by simpa using e2) hv
                rw [hv']; rfl
            · rename_i hm1
              rw [if_neg hm1]
              have hcx2 := colOf_raw (wordAt ws (i + 1 + 1)) text.length ht
              split at h
              · rename_i hb
                have hb' : colRaw (wordAt ws (i + 1 + 1)) = none := hb
                rw [hb'] at hcx2
                rw [hcx2]
              · cases h
        · rw [if_neg hal]
    · rename_i e
      rw [e] at hn ⊢
      simp only [wordAt_drop2]
      have hcx := colOf_raw (wordAt ws (i + 1 + 0)) text.length ht
      split at h
      · rename_i hlaw
        split at h
        · rename_i ha
          have ha' : colRaw (wordAt ws (i + 1 + 0)) = none := ha
          rw [ha'] at hcx
          unfold inP; rw [hcx]
        · rename_i a ha
          have ha' : colRaw (wordAt ws (i + 1 + 0)) = some a := ha
          rw [ha'] at hcx
          simp only at hcx
          unfold inP
          rw [hcx]
          by_cases hal : a < text.length
          · rw [if_pos hal]
            simp only [isInP]
            split at h
            · rename_i hf
              have hf' : findT ts (wordAt ws (i + 1 + 1)) = none := hf
              rw [hf']; simp
            · rename_i t hf
              have hf' : findT ts (wordAt ws (i + 1 + 1)) = some t := hf
              rw [hf']
              simp only []
              have hc3 := colOf_raw (wordAt ws (i + 1 + 2)) _ (hts t)
              have hc4 := colOf_raw (wordAt ws (i + 1 + 3)) _ (hts t)
              split at h
              · rename_i hm
                have hm' : colRaw (wordAt ws (i + 1 + 2)) = none := hm
                rw [hm'] at hc3
                rw [hc3]; simp
              · split at h
                · rename_i ho
                  have ho' : colRaw (wordAt ws (i + 1 + 3)) = none := ho
                  rw [ho'] at hc4
                  rw [hc4]; simp
                · cases h
          · rw [if_neg hal]
      · rename_i hlaw
        have hl : law = false := by simpa using hlaw
        subst hl
        unfold inP
        split <;> simp
    · rename_i e
      rw [e] at hn ⊢
      split at h
      · rename_i hc
        cases hcl : condLen (ws.drop (i + 1)) with
        | none => rw [hcl] at hn; cases hn
        | some q =>
          rw [hcl] at hn
          simp at hn
          exact ih (i + 1) (by omega) hc q hcl (by omega)
      · cases h
    · rename_i e
      rw [e] at hn ⊢
      cases hcl : condLen (ws.drop (i + 1)) with
      | none => rfl
      | some q =>
        rw [hcl] at hn
        simp only at hn ⊢
        cases hcl2 : condLen ((ws.drop (i + 1)).drop q) with
        | none => rw [hcl2] at hn; cases hn
        | some q2 =>
          rw [hcl2] at hn
          simp at hn
          split at h
          · rename_i hc
            rw [ih (i + 1) (by omega) hc q hcl (by omega)]; rfl
          · rename_i c' j' hc
            obtain ⟨h1, h2, h3⟩ := parse_len ts law ws _ _ _ _ hc
            rw [hcl] at h3
            have hq : q = j' - (i + 1) := by simpa using h3
            have hd : (ws.drop (i + 1)).drop q = ws.drop j' := by rw [List.drop_drop]; congr 1; omega
            rw [hd] at hcl2 ⊢
            split at h
            · rename_i hd2
              rw [ih j' (by omega) hd2 q2 hcl2 (by omega)]; simp
            · cases h
    · rename_i e
      rw [e] at hn; cases hn
/-- What the document asks of a condition with which the words end, by what the program reads. -/
theorem condAt_parse (ts : List (List UInt8 × List Bool)) (text : List Bool) (law : Bool) (ws : List (List UInt8)) (ht : text.length ≤ 9) (hts : ∀ t, (ts.getD t ([], [])).2.length ≤ 9) (i k : Nat) (hk : ws.length < i + k) (hi : i ≤ ws.length) :
    condAt ts text law ws i (ws.length - i) = match parseC ts law ws k i with
      | none => false
      | some (c, j) => fitC ts text c && decide (j = ws.length) := by
  unfold condAt
  cases hp : parseC ts law ws k i with
  | none =>
    simp only
    by_cases hcl : condLen (ws.drop i) = some (ws.length - i)
    · rw [parse_none ts text law ws ht hts k i hk hp _ hcl (by omega)]; simp
    · simp [hcl]
  | some p =>
    obtain ⟨c, j⟩ := p
    obtain ⟨h1, h2, h3⟩ := parse_len ts law ws _ _ _ _ hp
    simp only
    rw [parse_fit ts text law ws ht hts _ _ _ _ hp, h3, Bool.and_comm]
    congr 1
    apply decide_eq_decide.2
    constructor
    · rintro ⟨h, _⟩
      have := Option.some.inj h
      omega
    · rintro rfl
      exact ⟨rfl, by omega⟩
end Go.Proofs.YtnpjldffciociaaGreatDoor
