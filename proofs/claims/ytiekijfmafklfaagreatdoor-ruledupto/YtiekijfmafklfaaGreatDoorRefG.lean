import Derived.Test.YtiekijfmafklfaaGreatDoorRefG1
import Derived.Test.YtiekijfmafklfaaGreatDoorRefG2
namespace Go.Proofs.YtiekijfmafklfaaGreatDoor
open Go.RowKit
set_option maxRecDepth 10000 in
theorem condLen_any (ws : List (List UInt8)) (hl : ws.length ≤ 1048577) (k : Nat) : ∀ (v : Value) (i : Nat) (w : World), ws.length < i + k → i ≤ 16777216 → Reads w v (ws.map fun l => .string (bs l)) →
    Calls Tryz.prog 82 #[v, .int .i64 i] w fun e w' => e = .returned (.int .i64 (idxOf (condLen (ws.drop i)))) ∧ w' = w := by
  induction k with
  | zero =>
    intro v i w hk hi hv
    have hw := word_any v ws i w hv (by omega)
    rcases wordAt_drop ws i with ⟨x, r, h1, h2, h3, h4⟩ | ⟨h1, h2, h3⟩
    · omega
    · rw [h2] at hw
      rw [h1]
      simp only [condLen, idxOf]
      exact cl_none v i w hi [] rfl rfl rfl rfl rfl rfl rfl rfl hw
  | succ k ih =>
    intro v i w hk hi hv
    have hw := word_any v ws i w hv (by omega)
    rcases wordAt_drop ws i with ⟨x, r, h1, h2, h3, h4⟩ | ⟨h1, h2, h3⟩
    · rw [h2] at hw
      rw [h1]
      have hrl : r.length ≤ ws.length := by rw [← h3]; simp
      have hi1 : Calls Tryz.prog 82 #[v, .int .i64 ((i : Int) + 1)] w fun e w' => e = .returned (.int .i64 (idxOf (condLen r))) ∧ w' = w := by
        have := ih v (i + 1) w (by omega) (by omega) hv
        rw [h3] at this
        simpa using this
      have hi2 : ∀ a : Nat, a ≤ 8388608 → Calls Tryz.prog 82 #[v, .int .i64 ((i : Int) + 1 + a)] w fun e w' => e = .returned (.int .i64 (idxOf (condLen (r.drop a)))) ∧ w' = w := by
        intro a ha
        have := ih v (i + 1 + a) w (by omega) (by omega) hv
        rw [← h3, List.drop_drop]
        simpa using this
      clear ih h1 h2 h3
      rw [condLen]
      unfold cword
      by_cases e1 : x = wAny
      · subst e1; exact cl_any v i w hi hw
      by_cases e2 : x = wEq
      · subst e2; exact cl_eq v i w hi hw
      by_cases e3 : x = wLt
      · subst e3; exact cl_lt v i w hi hw
      by_cases e4 : x = wSame
      · subst e4; exact cl_same v i w hi hw
      by_cases e5 : x = wIn
      · subst e5; exact cl_in v i w hi hw
      by_cases e6 : x = wNot
      · subst e6
        cases ha : condLen r with
        | none => rw [ha] at hi1; exact cl_not_no v i w hi hw hi1
        | some a =>
          have hal := condLen_le _ r (Nat.le_refl _) a ha
          rw [ha] at hi1
          exact cl_not_yes v i w hi a (by omega) hw hi1
      by_cases e7 : x = wAnd
      · subst e7
        cases ha : condLen r with
        | none => rw [ha] at hi1; exact cl_and_no v i w hi hw hi1
        | some a =>
          have hal := condLen_le _ r (Nat.le_refl _) a ha
          have hi2' := hi2 a (by omega)
          rw [ha] at hi1
          cases hb : condLen (r.drop a) with
          | none =>
            rw [hb] at hi2'
            simp only [hb]
            exact cl_and_nob v i w hi a (by omega) hw hi1 hi2'
          | some b =>
            have hbl := condLen_le _ (r.drop a) (Nat.le_refl _) b hb
            have hdl : (r.drop a).length ≤ r.length := by simp
            rw [hb] at hi2'
            simp only [hb]
            exact cl_and_yes v i w hi a b (by omega) (by omega) hw hi1 hi2'
      by_cases e8 : x = wOr
      · subst e8
        cases ha : condLen r with
        | none => rw [ha] at hi1; exact cl_or_no v i w hi hw hi1
        | some a =>
          have hal := condLen_le _ r (Nat.le_refl _) a ha
          have hi2' := hi2 a (by omega)
          rw [ha] at hi1
          cases hb : condLen (r.drop a) with
          | none =>
            rw [hb] at hi2'
            simp only [hb]
            exact cl_or_nob v i w hi a (by omega) hw hi1 hi2'
          | some b =>
            have hbl := condLen_le _ (r.drop a) (Nat.le_refl _) b hb
            have hdl : (r.drop a).length ≤ r.length := by simp
            rw [hb] at hi2'
            simp only [hb]
            exact cl_or_yes v i w hi a b (by omega) (by omega) hw hi1 hi2'
      simp only [e1, e2, e3, e4, e5, e6, e7, e8, if_false]
      exact cl_none v i w hi x (by simp [e1]) (by simp [e2]) (by simp [e3]) (by simp [e4]) (by simp [e5]) (by simp [e6]) (by simp [e7]) (by simp [e8]) hw
    · rw [h2] at hw
      rw [h1]
      simp only [condLen, idxOf]
      exact cl_none v i w hi [] rfl rfl rfl rfl rfl rfl rfl rfl hw
end Go.Proofs.YtiekijfmafklfaaGreatDoor
