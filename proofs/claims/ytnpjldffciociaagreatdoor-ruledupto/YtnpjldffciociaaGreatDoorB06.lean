import Derived.Test.YtnpjldffciociaaGreatDoorB05
import Derived.Test.YtnpjldffciociaaGreatDoorB01
namespace Go.Proofs.YtnpjldffciociaaGreatDoor
open Go.RowKit

theorem bs_toList2 (l : List UInt8) : (bs l).toList = l := by rw [ByteArray.toList_eq]; rfl
theorem wordAt_drop (ws : List (List UInt8)) (i : Nat) : (∃ x r, ws.drop i = x :: r ∧ wordAt ws i = x ∧ ws.drop (i + 1) = r ∧ i < ws.length) ∨ (ws.drop i = [] ∧ wordAt ws i = [] ∧ ws.length ≤ i) := by
  by_cases h : i < ws.length
  · left
    exact ⟨ws[i], ws.drop (i + 1), List.drop_eq_getElem_cons h, by simp [wordAt, h], rfl, h⟩
  · right
    exact ⟨List.drop_of_length_le (by omega), by simp [wordAt, h], by omega⟩

set_option maxRecDepth 10000 in
set_option maxHeartbeats 1000000 in
theorem cl_any (v : Value) (i : Nat) (w : World) (_hi : i ≤ 16777216) (hw : Calls Tryz.prog 161 #[v, .int .i64 i] w fun e w' => e = .returned (.string (bs wAny)) ∧ w' = w) :
    Calls Tryz.prog 205 #[v, .int .i64 i] w fun e w' => e = .returned (.int .i64 1) ∧ w' = w := by
  have hbs := bs_toList2
  go_enter Tryz.func205, Tryz.ntmps205
  go_wp2_with (go_at_call 161; refine hw.mono ?_; rintro e w' ⟨rfl, rfl⟩)
  go_ret
  exact ⟨rfl, rfl⟩

set_option maxRecDepth 10000 in
set_option maxHeartbeats 1000000 in
theorem cl_eq (v : Value) (i : Nat) (w : World) (_hi : i ≤ 16777216) (hw : Calls Tryz.prog 161 #[v, .int .i64 i] w fun e w' => e = .returned (.string (bs wEq)) ∧ w' = w) :
    Calls Tryz.prog 205 #[v, .int .i64 i] w fun e w' => e = .returned (.int .i64 3) ∧ w' = w := by
  have hbs := bs_toList2
  go_enter Tryz.func205, Tryz.ntmps205
  go_wp2_with (go_at_call 161; refine hw.mono ?_; rintro e w' ⟨rfl, rfl⟩)
  go_ret
  exact ⟨rfl, rfl⟩

set_option maxRecDepth 10000 in
set_option maxHeartbeats 1000000 in
theorem cl_lt (v : Value) (i : Nat) (w : World) (_hi : i ≤ 16777216) (hw : Calls Tryz.prog 161 #[v, .int .i64 i] w fun e w' => e = .returned (.string (bs wLt)) ∧ w' = w) :
    Calls Tryz.prog 205 #[v, .int .i64 i] w fun e w' => e = .returned (.int .i64 3) ∧ w' = w := by
  have hbs := bs_toList2
  go_enter Tryz.func205, Tryz.ntmps205
  go_wp2_with (go_at_call 161; refine hw.mono ?_; rintro e w' ⟨rfl, rfl⟩)
  go_ret
  exact ⟨rfl, rfl⟩

set_option maxRecDepth 10000 in
set_option maxHeartbeats 1000000 in
theorem cl_same (v : Value) (i : Nat) (w : World) (_hi : i ≤ 16777216) (hw : Calls Tryz.prog 161 #[v, .int .i64 i] w fun e w' => e = .returned (.string (bs wSame)) ∧ w' = w) :
    Calls Tryz.prog 205 #[v, .int .i64 i] w fun e w' => e = .returned (.int .i64 3) ∧ w' = w := by
  have hbs := bs_toList2
  go_enter Tryz.func205, Tryz.ntmps205
  go_wp2_with (go_at_call 161; refine hw.mono ?_; rintro e w' ⟨rfl, rfl⟩)
  go_ret
  exact ⟨rfl, rfl⟩

set_option maxRecDepth 10000 in
set_option maxHeartbeats 1000000 in
theorem cl_in (v : Value) (i : Nat) (w : World) (_hi : i ≤ 16777216) (hw : Calls Tryz.prog 161 #[v, .int .i64 i] w fun e w' => e = .returned (.string (bs wIn)) ∧ w' = w) :
    Calls Tryz.prog 205 #[v, .int .i64 i] w fun e w' => e = .returned (.int .i64 5) ∧ w' = w := by
  have hbs := bs_toList2
  go_enter Tryz.func205, Tryz.ntmps205
  go_wp2_with (go_at_call 161; refine hw.mono ?_; rintro e w' ⟨rfl, rfl⟩)
  go_ret
  exact ⟨rfl, rfl⟩

set_option maxRecDepth 10000 in
set_option maxHeartbeats 1000000 in
theorem cl_none (v : Value) (i : Nat) (w : World) (_hi : i ≤ 16777216) (x : List UInt8) (n1 : (x == wAny) = false) (n2 : (x == wEq) = false) (n3 : (x == wLt) = false) (n4 : (x == wSame) = false) (n5 : (x == wIn) = false) (n6 : (x == wNot) = false) (n7 : (x == wAnd) = false) (n8 : (x == wOr) = false) (hw : Calls Tryz.prog 161 #[v, .int .i64 i] w fun e w' => e = .returned (.string (bs x)) ∧ w' = w) :
    Calls Tryz.prog 205 #[v, .int .i64 i] w fun e w' => e = .returned (.int .i64 (-1)) ∧ w' = w := by
  have hbs := bs_toList2
  go_enter Tryz.func205, Tryz.ntmps205
  go_wp2_with (go_at_call 161; refine hw.mono ?_; rintro e w' ⟨rfl, rfl⟩)
  go_ret
  exact ⟨rfl, rfl⟩
end Go.Proofs.YtnpjldffciociaaGreatDoor
namespace Go.Proofs.YtnpjldffciociaaGreatDoor
open Go.RowKit
theorem bs_toList3 (l : List UInt8) : (bs l).toList = l := by rw [ByteArray.toList_eq]; rfl
set_option maxRecDepth 10000 in
set_option maxHeartbeats 1000000 in
theorem cl_not_no (v : Value) (i : Nat) (w : World) (hi : i ≤ 16777216) (hw : Calls Tryz.prog 161 #[v, .int .i64 i] w fun e w' => e = .returned (.string (bs wNot)) ∧ w' = w) (hi1 : Calls Tryz.prog 205 #[v, .int .i64 ((i : Int) + 1)] w fun e w' => e = .returned (.int .i64 (-1)) ∧ w' = w) :
    Calls Tryz.prog 205 #[v, .int .i64 i] w fun e w' => e = .returned (.int .i64 (-1)) ∧ w' = w := by
  have hbs := bs_toList3
  go_enter Tryz.func205, Tryz.ntmps205
  go_wp2_with (first | (go_at_call 161; refine hw.mono ?_; rintro e w' ⟨rfl, rfl⟩) | (go_at_call 205; with_reducible refine hi1.mono ?_; rintro e w' ⟨rfl, rfl⟩))
  go_ret
  exact ⟨rfl, rfl⟩

set_option maxRecDepth 10000 in
set_option maxHeartbeats 1000000 in
theorem cl_not_yes (v : Value) (i : Nat) (w : World) (hi : i ≤ 16777216) (a : Nat) (ha : a ≤ 8388608) (hw : Calls Tryz.prog 161 #[v, .int .i64 i] w fun e w' => e = .returned (.string (bs wNot)) ∧ w' = w) (hi1 : Calls Tryz.prog 205 #[v, .int .i64 ((i : Int) + 1)] w fun e w' => e = .returned (.int .i64 (a : Int)) ∧ w' = w) :
    Calls Tryz.prog 205 #[v, .int .i64 i] w fun e w' => e = .returned (.int .i64 (a + 1)) ∧ w' = w := by
  have hbs := bs_toList3
  go_enter Tryz.func205, Tryz.ntmps205
  go_wp2_with (first | (go_at_call 161; refine hw.mono ?_; rintro e w' ⟨rfl, rfl⟩) | (go_at_call 205; with_reducible refine hi1.mono ?_; rintro e w' ⟨rfl, rfl⟩))
  go_ret
  exact ⟨rfl, rfl⟩

set_option maxRecDepth 10000 in
set_option maxHeartbeats 1000000 in
theorem cl_and_no (v : Value) (i : Nat) (w : World) (hi : i ≤ 16777216) (hw : Calls Tryz.prog 161 #[v, .int .i64 i] w fun e w' => e = .returned (.string (bs wAnd)) ∧ w' = w) (hi1 : Calls Tryz.prog 205 #[v, .int .i64 ((i : Int) + 1)] w fun e w' => e = .returned (.int .i64 (-1)) ∧ w' = w) :
    Calls Tryz.prog 205 #[v, .int .i64 i] w fun e w' => e = .returned (.int .i64 (-1)) ∧ w' = w := by
  have hbs := bs_toList3
  go_enter Tryz.func205, Tryz.ntmps205
  go_wp2_with (first | (go_at_call 161; refine hw.mono ?_; rintro e w' ⟨rfl, rfl⟩) | (go_at_call 205; with_reducible refine hi1.mono ?_; rintro e w' ⟨rfl, rfl⟩))
  go_ret
  exact ⟨rfl, rfl⟩

set_option maxRecDepth 10000 in
set_option maxHeartbeats 1000000 in
theorem cl_and_nob (v : Value) (i : Nat) (w : World) (hi : i ≤ 16777216) (a : Nat) (ha : a ≤ 8388608) (hw : Calls Tryz.prog 161 #[v, .int .i64 i] w fun e w' => e = .returned (.string (bs wAnd)) ∧ w' = w) (hi1 : Calls Tryz.prog 205 #[v, .int .i64 ((i : Int) + 1)] w fun e w' => e = .returned (.int .i64 (a : Int)) ∧ w' = w) (hi2 : Calls Tryz.prog 205 #[v, .int .i64 ((i : Int) + 1 + a)] w fun e w' => e = .returned (.int .i64 (-1)) ∧ w' = w) :
    Calls Tryz.prog 205 #[v, .int .i64 i] w fun e w' => e = .returned (.int .i64 (-1)) ∧ w' = w := by
  have hbs := bs_toList3
  go_enter Tryz.func205, Tryz.ntmps205
  go_wp2_with (first | (go_at_call 161; refine hw.mono ?_; rintro e w' ⟨rfl, rfl⟩) | (go_at_call 205; with_reducible refine hi1.mono ?_; rintro e w' ⟨rfl, rfl⟩) | (go_at_call 205; with_reducible refine hi2.mono ?_; rintro e w' ⟨rfl, rfl⟩))
  go_ret
  exact ⟨rfl, rfl⟩

set_option maxRecDepth 10000 in
set_option maxHeartbeats 1000000 in
theorem cl_and_yes (v : Value) (i : Nat) (w : World) (hi : i ≤ 16777216) (a b : Nat) (ha : a ≤ 8388608) (hb : b ≤ 8388608) (hw : Calls Tryz.prog 161 #[v, .int .i64 i] w fun e w' => e = .returned (.string (bs wAnd)) ∧ w' = w) (hi1 : Calls Tryz.prog 205 #[v, .int .i64 ((i : Int) + 1)] w fun e w' => e = .returned (.int .i64 (a : Int)) ∧ w' = w) (hi2 : Calls Tryz.prog 205 #[v, .int .i64 ((i : Int) + 1 + a)] w fun e w' => e = .returned (.int .i64 (b : Int)) ∧ w' = w) :
    Calls Tryz.prog 205 #[v, .int .i64 i] w fun e w' => e = .returned (.int .i64 (a + b + 1)) ∧ w' = w := by
  have hbs := bs_toList3
  go_enter Tryz.func205, Tryz.ntmps205
  go_wp2_with (first | (go_at_call 161; refine hw.mono ?_; rintro e w' ⟨rfl, rfl⟩) | (go_at_call 205; with_reducible refine hi1.mono ?_; rintro e w' ⟨rfl, rfl⟩) | (go_at_call 205; with_reducible refine hi2.mono ?_; rintro e w' ⟨rfl, rfl⟩))
  go_ret
  exact ⟨rfl, rfl⟩

set_option maxRecDepth 10000 in
set_option maxHeartbeats 1000000 in
theorem cl_or_no (v : Value) (i : Nat) (w : World) (hi : i ≤ 16777216) (hw : Calls Tryz.prog 161 #[v, .int .i64 i] w fun e w' => e = .returned (.string (bs wOr)) ∧ w' = w) (hi1 : Calls Tryz.prog 205 #[v, .int .i64 ((i : Int) + 1)] w fun e w' => e = .returned (.int .i64 (-1)) ∧ w' = w) :
    Calls Tryz.prog 205 #[v, .int .i64 i] w fun e w' => e = .returned (.int .i64 (-1)) ∧ w' = w := by
  have hbs := bs_toList3
  go_enter Tryz.func205, Tryz.ntmps205
  go_wp2_with (first | (go_at_call 161; refine hw.mono ?_; rintro e w' ⟨rfl, rfl⟩) | (go_at_call 205; with_reducible refine hi1.mono ?_; rintro e w' ⟨rfl, rfl⟩))
  go_ret
  exact ⟨rfl, rfl⟩

set_option maxRecDepth 10000 in
set_option maxHeartbeats 1000000 in
theorem cl_or_nob (v : Value) (i : Nat) (w : World) (hi : i ≤ 16777216) (a : Nat) (ha : a ≤ 8388608) (hw : Calls Tryz.prog 161 #[v, .int .i64 i] w fun e w' => e = .returned (.string (bs wOr)) ∧ w' = w) (hi1 : Calls Tryz.prog 205 #[v, .int .i64 ((i : Int) + 1)] w fun e w' => e = .returned (.int .i64 (a : Int)) ∧ w' = w) (hi2 : Calls Tryz.prog 205 #[v, .int .i64 ((i : Int) + 1 + a)] w fun e w' => e = .returned (.int .i64 (-1)) ∧ w' = w) :
    Calls Tryz.prog 205 #[v, .int .i64 i] w fun e w' => e = .returned (.int .i64 (-1)) ∧ w' = w := by
  have hbs := bs_toList3
  go_enter Tryz.func205, Tryz.ntmps205
  go_wp2_with (first | (go_at_call 161; refine hw.mono ?_; rintro e w' ⟨rfl, rfl⟩) | (go_at_call 205; with_reducible refine hi1.mono ?_; rintro e w' ⟨rfl, rfl⟩) | (go_at_call 205; with_reducible refine hi2.mono ?_; rintro e w' ⟨rfl, rfl⟩))
  go_ret
  exact ⟨rfl, rfl⟩

set_option maxRecDepth 10000 in
set_option maxHeartbeats 1000000 in
theorem cl_or_yes (v : Value) (i : Nat) (w : World) (hi : i ≤ 16777216) (a b : Nat) (ha : a ≤ 8388608) (hb : b ≤ 8388608) (hw : Calls Tryz.prog 161 #[v, .int .i64 i] w fun e w' => e = .returned (.string (bs wOr)) ∧ w' = w) (hi1 : Calls Tryz.prog 205 #[v, .int .i64 ((i : Int) + 1)] w fun e w' => e = .returned (.int .i64 (a : Int)) ∧ w' = w) (hi2 : Calls Tryz.prog 205 #[v, .int .i64 ((i : Int) + 1 + a)] w fun e w' => e = .returned (.int .i64 (b : Int)) ∧ w' = w) :
    Calls Tryz.prog 205 #[v, .int .i64 i] w fun e w' => e = .returned (.int .i64 (a + b + 1)) ∧ w' = w := by
  have hbs := bs_toList3
  go_enter Tryz.func205, Tryz.ntmps205
  go_wp2_with (first | (go_at_call 161; refine hw.mono ?_; rintro e w' ⟨rfl, rfl⟩) | (go_at_call 205; with_reducible refine hi1.mono ?_; rintro e w' ⟨rfl, rfl⟩) | (go_at_call 205; with_reducible refine hi2.mono ?_; rintro e w' ⟨rfl, rfl⟩))
  go_ret
  exact ⟨rfl, rfl⟩
end Go.Proofs.YtnpjldffciociaaGreatDoor
namespace Go.Proofs.YtnpjldffciociaaGreatDoor
open Go.RowKit
set_option maxRecDepth 10000 in
theorem condLen_any (ws : List (List UInt8)) (hl : ws.length ≤ 1048577) (k : Nat) : ∀ (v : Value) (i : Nat) (w : World), ws.length < i + k → i ≤ 16777216 → Reads w v (ws.map fun l => .string (bs l)) →
    Calls Tryz.prog 205 #[v, .int .i64 i] w fun e w' => e = .returned (.int .i64 (idxOf (condLen (ws.drop i)))) ∧ w' = w := by
  induction k with
  | zero =>
    intro v i w hk hi hv
    have hw := word_any v ws i w hv (by omega)
    rcases wordAt_drop ws i with ⟨x, r, h1, h2, h3, h4⟩ | ⟨h1, h2, h3⟩
    · omega
    · rw [h2] at hw
      rw [h1]
      simp only [condLen_nil, idxOf]
      exact cl_none v i w hi [] rfl rfl rfl rfl rfl rfl rfl rfl hw
  | succ k ih =>
    intro v i w hk hi hv
    have hw := word_any v ws i w hv (by omega)
    rcases wordAt_drop ws i with ⟨x, r, h1, h2, h3, h4⟩ | ⟨h1, h2, h3⟩
    · rw [h2] at hw
      rw [h1]
      have hrl : r.length ≤ ws.length := by rw [← h3]; simp
      have hi1 : Calls Tryz.prog 205 #[v, .int .i64 ((i : Int) + 1)] w fun e w' => e = .returned (.int .i64 (idxOf (condLen r))) ∧ w' = w := by
        have := ih v (i + 1) w (by omega) (by omega) hv
        rw [h3] at this
        simpa using this
      have hi2 : ∀ a : Nat, a ≤ 8388608 → Calls Tryz.prog 205 #[v, .int .i64 ((i : Int) + 1 + a)] w fun e w' => e = .returned (.int .i64 (idxOf (condLen (r.drop a)))) ∧ w' = w := by
        intro a ha
        have := ih v (i + 1 + a) w (by omega) (by omega) hv
        rw [← h3, List.drop_drop]
        simpa using this
      clear ih h1 h2 h3
      rw [condLen_cons]
      unfold cword
      by_cases e1 : x = wAny
      · subst e1; exact cl_any v i w hi hw
      by_cases e2 : x = wEq
      · subst e2; exact cl_eq v i w hi hw
      by_cases e3 : x = wLt
      · subst e3; exact cl_lt v i w hi hw
      by_cases e4 : x = wSame
      · subst e4; exact cl_same v i w hi hw
      by_cases e5 : x = wIn
      · subst e5; exact cl_in v i w hi hw
      by_cases e6 : x = wNot
      · subst e6
        cases ha : condLen r with
        | none => rw [ha] at hi1; exact cl_not_no v i w hi hw hi1
        | some a =>
          have hal := condLen_le _ r (Nat.le_refl _) a ha
          rw [ha] at hi1
          exact cl_not_yes v i w hi a (by omega) hw hi1
      by_cases e7 : x = wAnd
      · subst e7
        cases ha : condLen r with
        | none => rw [ha] at hi1; exact cl_and_no v i w hi hw hi1
        | some a =>
          have hal := condLen_le _ r (Nat.le_refl _) a ha
          have hi2' := hi2 a (by omega)
          rw [ha] at hi1
          cases hb : condLen (r.drop a) with
          | none =>
            rw [hb] at hi2'
            simp only [hb]
            exact cl_and_nob v i w hi a (by omega) hw hi1 hi2'
          | some b =>
            have hbl := condLen_le _ (r.drop a) (Nat.le_refl _) b hb
            have hdl : (r.drop a).length ≤ r.length := by simp
            rw [hb] at hi2'
            simp only [hb]
            exact cl_and_yes v i w hi a b (by omega) (by omega) hw hi1 hi2'
      by_cases e8 : x = wOr
      · subst e8
        cases ha : condLen r with
        | none => rw [ha] at hi1; exact cl_or_no v i w hi hw hi1
        | some a =>
          have hal := condLen_le _ r (Nat.le_refl _) a ha
          have hi2' := hi2 a (by omega)
          rw [ha] at hi1
          cases hb : condLen (r.drop a) with
          | none =>
            rw [hb] at hi2'
            simp only [hb]
            exact cl_or_nob v i w hi a (by omega) hw hi1 hi2'
          | some b =>
            have hbl := condLen_le _ (r.drop a) (Nat.le_refl _) b hb
            have hdl : (r.drop a).length ≤ r.length := by simp
            rw [hb] at hi2'
            simp only [hb]
            exact cl_or_yes v i w hi a b (by omega) (by omega) hw hi1 hi2'
      simp only [e1, e2, e3, e4, e5, e6, e7, e8, if_false]
      exact cl_none v i w hi x (by simp [e1]) (by simp [e2]) (by simp [e3]) (by simp [e4]) (by simp [e5]) (by simp [e6]) (by simp [e7]) (by simp [e8]) hw
    · rw [h2] at hw
      rw [h1]
      simp only [condLen_nil, idxOf]
      exact cl_none v i w hi [] rfl rfl rfl rfl rfl rfl rfl rfl hw
end Go.Proofs.YtnpjldffciociaaGreatDoor
namespace Go.Proofs.YtnpjldffciociaaGreatDoor
open Go.RowKit

/-- 'in COL TABLE COL COL', for a column of this type: the last three words. -/
def isInP (ts : List (List UInt8 × List Bool)) (x2 x3 x4 : List UInt8) (text : Bool) : Bool :=
  match findT ts x2 with
  | none => false
  | some t =>
    match colOf x3 (ts.getD t ([], [])).2.length, colOf x4 (ts.getD t ([], [])).2.length with
    | some b, some c => ((ts.getD t ([], [])).2.getD b false == text) && (ts.getD t ([], [])).2.getD c false
    | _, _ => false

theorem findT_lt {ts : List (List UInt8 × List Bool)} {x : List UInt8} {t : Nat} (h : findT ts x = some t) : t < ts.length := by
  unfold findT at h
  rw [List.findIdx?_eq_some_iff_getElem] at h
  exact h.1

/-- The cells of one table. -/
theorem ReadsTabs.row {enc : Bool → Value} {w : World} {v : Value} {ts : List (List UInt8 × List Bool)} (h : ReadsTabs enc w v ts) {t : Nat} (ht : t < ts.length) :
    ∃ b off cap a capt, v = .slice (some ⟨b, off, none⟩) ts.length cap ∧ w.cell? ⟨b, off + t * 2, none⟩ = some (.string (bs (ts.getD t ([], [])).1)) ∧ w.cell? ⟨b, off + t * 2 + 1, none⟩ = some (.slice a (ts.getD t ([], [])).2.length capt) ∧
      ∀ (j : Nat), j < (ts.getD t ([], [])).2.length → ∃ b2 off2, a = some ⟨b2, off2, none⟩ ∧ w.cell? ⟨b2, off2 + j, none⟩ = some (enc ((ts.getD t ([], [])).2.getD j false)) := by
  obtain ⟨a0, cap, rfl, h⟩ := h
  obtain ⟨b, off, tv, rfl, hb, hc1, hc2, a, capt, rfl, hr⟩ := h t ts[t] (List.getElem?_eq_getElem ht)
  have e : ts.getD t ([], []) = ts[t] := by simp [List.getD, ht]
  rw [e]
  refine ⟨b, off, cap, a, capt, rfl, hc1, by simpa using hc2, fun j hj => ?_⟩
  obtain ⟨b2, off2, rfl, _, hc⟩ := hr j (enc (ts[t].2.getD j false)) (by simp [List.getD, hj])
  exact ⟨b2, off2, rfl, hc⟩

theorem Reads.row {w : World} {v : Value} {ws : List (List UInt8)} (h : Reads w v (ws.map fun l => .string (bs l))) {i : Nat} (hi : i < ws.length) :
    ∃ b off cap, v = .slice (some ⟨b, off, none⟩) ws.length cap ∧ ∀ j, j < ws.length → w.cell? ⟨b, off + j, none⟩ = some (.string (bs (wordAt ws j))) := by
  obtain ⟨a, cap, rfl, h⟩ := h
  obtain ⟨b, off, rfl, hb, hc⟩ := h i (.string (bs (ws[i]))) (by simp [hi])
  refine ⟨b, off, cap, by simp, fun j hj => ?_⟩
  obtain ⟨b', off', e, _, hc'⟩ := h j (.string (bs (ws[j]))) (by simp [hj])
  obtain ⟨rfl, rfl⟩ : b = b' ∧ off = off' := by simpa using e
  rw [hc']; simp [wordAt, hj]

theorem quiet_a {P : Program} {f : FuncId} {args : Array Value} {w : World} {n m : Nat} {v : Value} (h : ∀ W, Calls P f args W fun e w' => e = .returned v ∧ w' = W) :
    Calls P f args (w.drewN (n + m)) fun e w'' => e = .returned v ∧ ∃ k, w'' = w.drewN (n + k) := (h _).mono fun _ _ ⟨he, hw⟩ => ⟨he, m, hw⟩
theorem quiet_b {P : Program} {f : FuncId} {args : Array Value} {w : World} {n m : Nat} {v : Value} (h : ∀ W, Calls P f args W fun e w' => e = .returned v ∧ w' = W) :
    Calls P f args (w.drewN (n + m)) fun e w'' => e = .returned v ∧ ∃ k, w'' = (w.drewN n).drewN k := (h _).mono fun _ _ ⟨he, hw⟩ => ⟨he, m, by rw [hw, World.drewN_drewN]⟩

set_option maxRecDepth 10000 in
set_option maxHeartbeats 1000000 in
theorem in_none (w : World) (v : Value) (b off len cap i : Nat) (x2 : List UInt8) (text : Bool) (hi : i + 4 < len) (hlen : len ≤ 1048577)
    (hc2 : w.cell? ⟨b, off + (i + 2), none⟩ = some (.string (bs x2)))
    (hf : Calls Tryz.prog 105 #[v, .string (bs x2)] w fun e w' => e = .returned (.int .i64 (-1)) ∧ w' = w) :
    Calls Tryz.prog 214 #[v, .slice (some ⟨b, off, none⟩) len cap, .int .i64 i, .bool text] w fun e w' => e = .returned (.bool false) ∧ w' = w := by
  go_enter Tryz.func214, Tryz.ntmps214
  go_wp2_with (go_at_call 105; refine hf.mono ?_; rintro e w' ⟨rfl, rfl⟩)
  go_ret
  exact ⟨rfl, rfl⟩

set_option maxRecDepth 10000 in
set_option maxHeartbeats 1000000 in
theorem in_some (w : World) (b off len cap i : Nat) (x2 x3 x4 : List UInt8) (text : Bool) (bt offt nt capt t : Nat) (at_ : Option Addr) (n capn : Nat) (p q : Int) (hi : i + 4 < len) (hlen : len ≤ 1048577) (ht : t < nt) (_hnt : nt ≤ 1048577) (_hn : n ≤ 1048577)
    (hc2 : w.cell? ⟨b, off + (i + 2), none⟩ = some (.string (bs x2))) (hc3 : w.cell? ⟨b, off + (i + 3), none⟩ = some (.string (bs x3))) (hc4 : w.cell? ⟨b, off + (i + 4), none⟩ = some (.string (bs x4)))
    (hct : w.cell? ⟨bt, offt + t * 2 + 1, none⟩ = some (.slice at_ n capn))
    (hf : Calls Tryz.prog 105 #[.slice (some ⟨bt, offt, none⟩) nt capt, .string (bs x2)] w fun e w' => e = .returned (.int .i64 t) ∧ w' = w)
    (hp : ∀ w, Calls Tryz.prog 163 #[.string (bs x3), .int .i64 n] w fun e w' => e = .returned (.int .i64 p) ∧ w' = w)
    (hq : ∀ w, Calls Tryz.prog 163 #[.string (bs x4), .int .i64 n] w fun e w' => e = .returned (.int .i64 q) ∧ w' = w)
    (hno : p < 0 ∨ q < 0) :
    Calls Tryz.prog 214 #[.slice (some ⟨bt, offt, none⟩) nt capt, .slice (some ⟨b, off, none⟩) len cap, .int .i64 i, .bool text] w fun e w' => e = .returned (.bool false) ∧ ∃ n, w' = w.drewN n := by
  have hi3 : (i : Int) + 3 < (len : Int) := by omega
  have hi4 : (i : Int) + 4 < (len : Int) := by omega
  have hti : (t : Int) < (nt : Int) := by omega
  have hw4 : IntKind.i64.wrap ((i : Int) + 4) = (i : Int) + 4 := IntWalk.i64_in _ (by omega)
  go_enter Tryz.func214, Tryz.ntmps214
  go_wp2_with (go_at_call 105; refine hf.mono ?_; rintro e w' ⟨rfl, rfl⟩)
  go_quiet ((go_at_call 163; exact Calls.quiet_of_same (hp _)))
  go_wp2_with fail
  go_quiet ((go_at_call 163; first | exact quiet_a hq | exact quiet_b hq | exact Calls.quiet_of_same (hq _)))
  go_wp2_with fail
  all_goals
    go_ret
    exact ⟨rfl, _, by first | rfl | simp⟩

set_option maxRecDepth 10000 in
set_option maxHeartbeats 1000000 in
theorem in_yes (w : World) (b off len cap i : Nat) (x2 x3 x4 : List UInt8) (text : Bool) (bt offt nt capt t : Nat)  (n capn : Nat) (p q : Nat) (b2 off2 : Nat) (x y : Bool) (hi : i + 4 < len) (hlen : len ≤ 1048577) (ht : t < nt) (_hnt : nt ≤ 1048577) (_hn : n ≤ 1048577)
    (hc2 : w.cell? ⟨b, off + (i + 2), none⟩ = some (.string (bs x2))) (hc3 : w.cell? ⟨b, off + (i + 3), none⟩ = some (.string (bs x3))) (hc4 : w.cell? ⟨b, off + (i + 4), none⟩ = some (.string (bs x4)))
    (hct : w.cell? ⟨bt, offt + t * 2 + 1, none⟩ = some (.slice (some ⟨b2, off2, none⟩) n capn))
    (hf : Calls Tryz.prog 105 #[.slice (some ⟨bt, offt, none⟩) nt capt, .string (bs x2)] w fun e w' => e = .returned (.int .i64 t) ∧ w' = w)
    (hp : ∀ w, Calls Tryz.prog 163 #[.string (bs x3), .int .i64 n] w fun e w' => e = .returned (.int .i64 p) ∧ w' = w)
    (hq : ∀ w, Calls Tryz.prog 163 #[.string (bs x4), .int .i64 n] w fun e w' => e = .returned (.int .i64 q) ∧ w' = w)
    (hpn : p < n) (hqn : q < n) (hcp : w.cell? ⟨b2, off2 + p, none⟩ = some (.bool x)) (hcq : w.cell? ⟨b2, off2 + q, none⟩ = some (.bool y)) :
    Calls Tryz.prog 214 #[.slice (some ⟨bt, offt, none⟩) nt capt, .slice (some ⟨b, off, none⟩) len cap, .int .i64 i, .bool text] w fun e w' => e = .returned (.bool ((x == text) && y)) ∧ ∃ n, w' = w.drewN n := by
  have hi3 : (i : Int) + 3 < (len : Int) := by omega
  have hi4 : (i : Int) + 4 < (len : Int) := by omega
  have hti : (t : Int) < (nt : Int) := by omega
  have hw4 : IntKind.i64.wrap ((i : Int) + 4) = (i : Int) + 4 := IntWalk.i64_in _ (by omega)
  go_enter Tryz.func214, Tryz.ntmps214
  go_wp2_with (go_at_call 105; refine hf.mono ?_; rintro e w' ⟨rfl, rfl⟩)
  go_quiet ((go_at_call 163; exact Calls.quiet_of_same (hp _)))
  go_wp2_with fail
  go_quiet ((go_at_call 163; first | exact quiet_a hq | exact quiet_b hq | exact Calls.quiet_of_same (hq _)))
  go_wp2_with fail
  all_goals
    go_ret
    refine ⟨ret_bool ?_, _, by first | rfl | simp⟩
    cases x <;> cases y <;> cases text <;> simp_all

theorem isIn_any (v vw : Value) (ts : List (List UInt8 × List Bool)) (ws : List (List UInt8)) (i : Nat) (text : Bool) (w : World) (hv : ReadsTabs Value.bool w v ts) (hvw : Reads w vw (ws.map fun l => .string (bs l)))
    (hi : i + 4 < ws.length) (hl : ws.length ≤ 1048577) (hlt : ts.length ≤ 1048577) (hlc : ∀ t, (ts.getD t ([], [])).2.length ≤ 1048577) (hwl : ∀ j, (wordAt ws j).length ≤ 1048577) :
    Calls Tryz.prog 214 #[v, vw, .int .i64 i, .bool text] w fun e w' => e = .returned (.bool (isInP ts (wordAt ws (i + 2)) (wordAt ws (i + 3)) (wordAt ws (i + 4)) text)) ∧ ∃ n, w' = w.drewN n := by
  have hf := find_any v ts (bs (wordAt ws (i + 2))) w hv (by omega)
  rw [bs_toList] at hf
  obtain ⟨b, off, cap, rfl, hc⟩ := hvw.row (i := i) (by omega)
  have hc2 := hc (i + 2) (by omega)
  have hc3 := hc (i + 3) (by omega)
  have hc4 := hc (i + 4) (by omega)
  unfold isInP
  cases hft : findT ts (wordAt ws (i + 2)) with
  | none =>
    rw [hft] at hf
    exact (in_none w v b off ws.length cap i _ text hi hl hc2 hf).mono fun e w' ⟨h1, h2⟩ => ⟨h1, 0, h2⟩
  | some t =>
    rw [hft] at hf
    have htl := findT_lt hft
    obtain ⟨bt, offt, capt, a, capn, rfl, _, hct, hcc⟩ := hv.row htl
    have hp := fun W => column_any (bs (wordAt ws (i + 3))) (ts.getD t ([], [])).2.length W (by have := hwl (i + 3); simp [maxLen]; omega)
    have hq := fun W => column_any (bs (wordAt ws (i + 4))) (ts.getD t ([], [])).2.length W (by have := hwl (i + 4); simp [maxLen]; omega)
    rw [bs_toList] at hp hq
    have hn := hlc t
    simp only []
    cases hcp : colOf (wordAt ws (i + 3)) (ts.getD t ([], [])).2.length with
    | none =>
      rw [hcp] at hp
      exact in_some w b off ws.length cap i _ _ _ text bt offt ts.length capt t a _ capn _ _ hi hl htl hlt hn hc2 hc3 hc4 hct hf hp hq (.inl (by simp [idxOf]))
    | some p =>
      rw [hcp] at hp
      cases hcq : colOf (wordAt ws (i + 4)) (ts.getD t ([], [])).2.length with
      | none =>
        rw [hcq] at hq
        exact in_some w b off ws.length cap i _ _ _ text bt offt ts.length capt t a _ capn _ _ hi hl htl hlt hn hc2 hc3 hc4 hct hf hp hq (.inr (by simp [idxOf]))
      | some q =>
        rw [hcq] at hq
        have hpn := (colOf_lt hcp).1
        have hqn := (colOf_lt hcq).1
        obtain ⟨b2, off2, rfl, hx⟩ := hcc p hpn
        obtain ⟨b2', off2', e2, hy⟩ := hcc q hqn
        obtain ⟨rfl, rfl⟩ : b2 = b2' ∧ off2 = off2' := by simpa using e2
        exact in_yes w b off ws.length cap i _ _ _ text bt offt ts.length capt t _ capn p q b2 off2 _ _ hi hl htl hlt hn hc2 hc3 hc4 hct hf hp hq hpn hqn hx hy
end Go.Proofs.YtnpjldffciociaaGreatDoor
