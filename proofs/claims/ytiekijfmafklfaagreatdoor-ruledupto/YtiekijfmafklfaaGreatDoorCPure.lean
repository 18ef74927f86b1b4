import Derived.Test.YtiekijfmafklfaaGreatDoorRefI
import Derived.Test.YtiekijfmafklfaaGreatDoorProgA
namespace Go.Proofs.YtiekijfmafklfaaGreatDoor

/-- A condition, as it was read. -/
inductive Cnd where
  | any
  | val (a : Nat) (b : Bool)
  | same (a b : Nat)
  | isin (a t m o : Nat)
  | neg (c : Cnd)
  | two (c d : Cnd)

def parseC (ts : List (List UInt8 × List Bool)) (law : Bool) (ws : List (List UInt8)) : Nat → Nat → Option (Cnd × Nat)
  | 0, _ => none
  | k + 1, i =>
    match cword (wordAt ws i) with
    | .any => some (.any, i + 1)
    | .three m => match colRaw (wordAt ws (i + 1)) with
      | none => none
      | some a =>
        if m = 0 then (if wordAt ws (i + 2) = wMe then some (.val a true, i + 3) else match valKind (wordAt ws (i + 2)) with
          | none => none
          | some b => some (.val a b, i + 3))
        else if m = 1 then (if valKind (wordAt ws (i + 2)) = some false then some (.val a false, i + 3) else none)
        else match colRaw (wordAt ws (i + 2)) with
          | none => none
          | some b => some (.same a b, i + 3)
    | .isin => if law then (match colRaw (wordAt ws (i + 1)) with
        | none => none
        | some a => match findT ts (wordAt ws (i + 2)) with
          | none => none
          | some t => match colRaw (wordAt ws (i + 3)) with
            | none => none
            | some m => match colRaw (wordAt ws (i + 4)) with
              | none => none
              | some o => some (.isin a t m o, i + 5)) else none
    | .neg => match parseC ts law ws k (i + 1) with
      | none => none
      | some (c, j) => some (.neg c, j)
    | .two => match parseC ts law ws k (i + 1) with
      | none => none
      | some (c, j) => match parseC ts law ws k j with
        | none => none
        | some (d, j2) => some (.two c d, j2)
    | .none => none

def fitC (ts : List (List UInt8 × List Bool)) (text : List Bool) : Cnd → Bool
  | .any => true
  | .val a b => text[a]? == some b
  | .same a b => text[a]?.isSome && (text[a]? == text[b]?)
  | .isin a t m o => text[a]?.isSome && (text[a]? == (ts.getD t ([], [])).2[m]?) && ((ts.getD t ([], [])).2[o]? == some true)
  | .neg c => fitC ts text c
  | .two c d => fitC ts text c && fitC ts text d

theorem word_lt {ws : List (List UInt8)} {i : Nat} (h : wordAt ws i ≠ []) : i < ws.length := by
  rcases Nat.lt_or_ge i ws.length with h' | h'
  · exact h'
  · exact absurd (by simp [wordAt, Nat.not_lt.2 h']) h
theorem word_drop {ws : List (List UInt8)} {i : Nat} (h : i < ws.length) : ws.drop i = wordAt ws i :: ws.drop (i + 1) := by
  rw [List.drop_eq_getElem_cons h]; simp [wordAt, h]
theorem cword_nil : cword [] = .none := by simp [cword]
theorem colRaw_nil : colRaw [] = none := rfl
theorem valKind_nil : valKind [] = none := by simp [valKind, isNum, stripMinus, numOk, isTextL]
theorem colRaw_lt {ws : List (List UInt8)} {i a : Nat} (h : colRaw (wordAt ws i) = some a) : i < ws.length := word_lt (fun e => by rw [e, colRaw_nil] at h; cases h)
theorem valKind_lt {ws : List (List UInt8)} {i : Nat} {b : Bool} (h : valKind (wordAt ws i) = some b) : i < ws.length := word_lt (fun e => by rw [e, valKind_nil] at h; cases h)
theorem cword_lt' {ws : List (List UInt8)} {i : Nat} (h : cword (wordAt ws i) ≠ .none) : i < ws.length := word_lt (fun e => h (by rw [e, cword_nil]))

theorem parse_len (ts : List (List UInt8 × List Bool)) (law : Bool) (ws : List (List UInt8)) : ∀ (k i : Nat) (c : Cnd) (j : Nat), parseC ts law ws k i = some (c, j) → i < j ∧ j ≤ ws.length ∧ condLen (ws.drop i) = some (j - i) := by
  intro k
  induction k with
  | zero => intro i c j h; cases h
  | succ k ih =>
    intro i c j h
    rw [parseC] at h
    have hlt : i < ws.length := cword_lt' (fun e => by rw [e] at h; cases h)
    rw [word_drop hlt, condLen]
    split at h
    · rename_i e; cases h; rw [e]; refine ⟨by omega, by omega, by simp⟩
    · rename_i m e
      rw [e]
      split at h
      · cases h
      · rename_i a ha
        have h1 := colRaw_lt ha
        split at h
        · split at h
          · rename_i e2; cases h
            have h2 := word_lt (ws := ws) (i := i + 2) (by rw [e2]; simp)
            exact ⟨by omega, by omega, by simp⟩
          · split at h
            · cases h
            · rename_i hb; cases h
              have h2 := valKind_lt hb
              exact ⟨by omega, by omega, by simp⟩
        · split at h
          · split at h
            · rename_i hb; cases h
              have h2 := valKind_lt hb
              exact ⟨by omega, by omega, by simp⟩
            · cases h
          · split at h
            · cases h
            · rename_i hb; cases h
              have h2 := colRaw_lt hb
              exact ⟨by omega, by omega, by simp⟩
    · rename_i e
      rw [e]
      split at h
      · split at h
        · cases h
        · split at h
          · cases h
          · split at h
            · cases h
            · split at h
              · cases h
              · rename_i ho; cases h
                have h2 := colRaw_lt ho
                exact ⟨by omega, by omega, by simp⟩
      · cases h
    · rename_i e
      rw [e]
      split at h
      · cases h
      · rename_i c' j' hc; cases h
        obtain ⟨h1, h2, h3⟩ := ih _ _ _ hc
        rw [h3]
        exact ⟨by omega, h2, by simp; omega⟩
    · rename_i e
      rw [e]
      split at h
      · cases h
      · rename_i c' j' hc
        obtain ⟨h1, h2, h3⟩ := ih _ _ _ hc
        split at h
        · cases h
        · rename_i d' j2 hd; cases h
          obtain ⟨g1, g2, g3⟩ := ih _ _ _ hd
          rw [h3]
          simp only
          rw [List.drop_drop, show i + 1 + (j' - (i + 1)) = j' by omega, g3]
          exact ⟨by omega, g2, by simp; omega⟩
    · cases h
end Go.Proofs.YtiekijfmafklfaaGreatDoor
