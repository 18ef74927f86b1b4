import Derived.Test.YtiekijfmafklfaaGreatDoorPure
namespace Go.Proofs.YtiekijfmafklfaaGreatDoor

/-- The words of the language. -/
abbrev wAny : List UInt8 := [97, 110, 121]
abbrev wEq : List UInt8 := [101, 113]
abbrev wLt : List UInt8 := [108, 116]
abbrev wSame : List UInt8 := [115, 97, 109, 101]
abbrev wIn : List UInt8 := [105, 110]
abbrev wNot : List UInt8 := [110, 111, 116]
abbrev wAnd : List UInt8 := [97, 110, 100]
abbrev wOr : List UInt8 := [111, 114]

/-- What a word says of a condition that begins with it. -/
inductive CWord | any | three (k : Nat) | isin | neg | two | none
def cword (x : List UInt8) : CWord :=
  if x = wAny then .any else if x = wEq then .three 0 else if x = wLt then .three 1 else if x = wSame then .three 2 else if x = wIn then .isin else if x = wNot then .neg
  else if x = wAnd then .two else if x = wOr then .two else .none

/-- How many words the condition has with which these begin (by the words alone). -/
def condLen : List (List UInt8) → Option Nat
  | [] => none
  | x :: r =>
    match cword x with
    | .any => some 1
    | .three _ => some 3
    | .isin => some 5
    | .neg => match condLen r with
      | none => none
      | some n => some (n + 1)
    | .two => match condLen r with
      | none => none
      | some a => match condLen (r.drop a) with
        | none => none
        | some b => some (a + b + 1)
    | .none => none
termination_by l => l.length
decreasing_by all_goals (simp; try omega)

theorem condLen_le : ∀ (k : Nat) (l : List (List UInt8)), l.length ≤ k → ∀ n, condLen l = some n → n ≤ 5 * l.length ∧ 1 ≤ n := by
  intro k
  induction k with
  | zero =>
    intro l hl n h
    match l, hl with
    | [], _ => simp [condLen] at h
  | succ k ih =>
    intro l hl n h
    match l, hl with
    | [], _ => simp [condLen] at h
    | x :: r, hl =>
      simp at hl
      rw [condLen] at h
      split at h
      · simp at h; simp; omega
      · simp at h; simp; omega
      · simp at h; simp; omega
      · split at h
        · cases h
        · rename_i m hm
          have := ih r (by omega) m hm
          simp at h; simp; omega
      · split at h
        · cases h
        · rename_i a ha
          have h1 := ih r (by omega) a ha
          split at h
          · cases h
          · rename_i b hb
            have h2 := ih (r.drop a) (by simp; omega) b hb
            simp at h h2
            simp
            have : a < r.length ∨ r.length ≤ a := by omega
            rcases this with h3 | h3
            · omega
            · rw [List.drop_of_length_le h3] at hb
              simp [condLen] at hb
      · cases h
end Go.Proofs.YtiekijfmafklfaaGreatDoor
