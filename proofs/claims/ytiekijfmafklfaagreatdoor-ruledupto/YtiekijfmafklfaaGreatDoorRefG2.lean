import Derived.Test.YtiekijfmafklfaaGreatDoorRefF
import Derived.Test.YtiekijfmafklfaaGreatDoorPure2
namespace Go.Proofs.YtiekijfmafklfaaGreatDoor
open Go.RowKit
theorem bs_toList3 (l : List UInt8) : (bs l).toList = l := by rw [ByteArray.toList_eq]; rfl
set_option maxRecDepth 10000 in
set_option maxHeartbeats 1000000 in
theorem cl_not_no (v : Value) (i : Nat) (w : World) (hi : i ≤ 16777216) (hw : Calls Tryz.prog 61 #[v, .int .i64 i] w fun e w' => e = .returned (.string (bs wNot)) ∧ w' = w) (hi1 : Calls Tryz.prog 82 #[v, .int .i64 ((i : Int) + 1)] w fun e w' => e = .returned (.int .i64 (-1)) ∧ w' = w) :
    Calls Tryz.prog 82 #[v, .int .i64 i] w fun e w' => e = .returned (.int .i64 (-1)) ∧ w' = w := by
  have hbs := bs_toList3
  go_enter Tryz.func82, Tryz.ntmps82
  go_wp2_with (first | (go_at_call 61; refine hw.mono ?_; rintro e w' ⟨rfl, rfl⟩) | (go_at_call 82; with_reducible refine hi1.mono ?_; rintro e w' ⟨rfl, rfl⟩))
  go_ret
  exact ⟨rfl, rfl⟩

set_option maxRecDepth 10000 in
set_option maxHeartbeats 1000000 in
theorem cl_not_yes (v : Value) (i : Nat) (w : World) (hi : i ≤ 16777216) (a : Nat) (ha : a ≤ 8388608) (hw : Calls Tryz.prog 61 #[v, .int .i64 i] w fun e w' => e = .returned (.string (bs wNot)) ∧ w' = w) (hi1 : Calls Tryz.prog 82 #[v, .int .i64 ((i : Int) + 1)] w fun e w' => e = .returned (.int .i64 (a : Int)) ∧ w' = w) :
    Calls Tryz.prog 82 #[v, .int .i64 i] w fun e w' => e = .returned (.int .i64 (a + 1)) ∧ w' = w := by
  have hbs := bs_toList3
  go_enter Tryz.func82, Tryz.ntmps82
  go_wp2_with (first | (go_at_call 61; refine hw.mono ?_; rintro e w' ⟨rfl, rfl⟩) | (go_at_call 82; with_reducible refine hi1.mono ?_; rintro e w' ⟨rfl, rfl⟩))
  go_ret
  exact ⟨rfl, rfl⟩

set_option maxRecDepth 10000 in
set_option maxHeartbeats 1000000 in
theorem cl_and_no (v : Value) (i : Nat) (w : World) (hi : i ≤ 16777216) (hw : Calls Tryz.prog 61 #[v, .int .i64 i] w fun e w' => e = .returned (.string (bs wAnd)) ∧ w' = w) (hi1 : Calls Tryz.prog 82 #[v, .int .i64 ((i : Int) + 1)] w fun e w' => e = .returned (.int .i64 (-1)) ∧ w' = w) :
    Calls Tryz.prog 82 #[v, .int .i64 i] w fun e w' => e = .returned (.int .i64 (-1)) ∧ w' = w := by
  have hbs := bs_toList3
  go_enter Tryz.func82, Tryz.ntmps82
  go_wp2_with (first | (go_at_call 61; refine hw.mono ?_; rintro e w' ⟨rfl, rfl⟩) | (go_at_call 82; with_reducible refine hi1.mono ?_; rintro e w' ⟨rfl, rfl⟩))
  go_ret
  exact ⟨rfl, rfl⟩

set_option maxRecDepth 10000 in
set_option maxHeartbeats 1000000 in
theorem cl_and_nob (v : Value) (i : Nat) (w : World) (hi : i ≤ 16777216) (a : Nat) (ha : a ≤ 8388608) (hw : Calls Tryz.prog 61 #[v, .int .i64 i] w fun e w' => e = .returned (.string (bs wAnd)) ∧ w' = w) (hi1 : Calls Tryz.prog 82 #[v, .int .i64 ((i : Int) + 1)] w fun e w' => e = .returned (.int .i64 (a : Int)) ∧ w' = w) (hi2 : Calls Tryz.prog 82 #[v, .int .i64 ((i : Int) + 1 + a)] w fun e w' => e = .returned (.int .i64 (-1)) ∧ w' = w) :
    Calls Tryz.prog 82 #[v, .int .i64 i] w fun e w' => e = .returned (.int .i64 (-1)) ∧ w' = w := by
  have hbs := bs_toList3
  go_enter Tryz.func82, Tryz.ntmps82
  go_wp2_with (first | (go_at_call 61; refine hw.mono ?_; rintro e w' ⟨rfl, rfl⟩) | (go_at_call 82; with_reducible refine hi1.mono ?_; rintro e w' ⟨rfl, rfl⟩) | (go_at_call 82; with_reducible refine hi2.mono ?_; rintro e w' ⟨rfl, rfl⟩))
  go_ret
  exact ⟨rfl, rfl⟩

set_option maxRecDepth 10000 in
set_option maxHeartbeats 1000000 in
theorem cl_and_yes (v : Value) (i : Nat) (w : World) (hi : i ≤ 16777216) (a b : Nat) (ha : a ≤ 8388608) (hb : b ≤ 8388608) (hw : Calls Tryz.prog 61 #[v, .int .i64 i] w fun e w' => e = .returned (.string (bs wAnd)) ∧ w' = w) (hi1 : Calls Tryz.prog 82 #[v, .int .i64 ((i : Int) + 1)] w fun e w' => e = .returned (.int .i64 (a : Int)) ∧ w' = w) (hi2 : Calls Tryz.prog 82 #[v, .int .i64 ((i : Int) + 1 + a)] w fun e w' => e = .returned (.int .i64 (b : Int)) ∧ w' = w) :
    Calls Tryz.prog 82 #[v, .int .i64 i] w fun e w' => e = .returned (.int .i64 (a + b + 1)) ∧ w' = w := by
  have hbs := bs_toList3
  go_enter Tryz.func82, Tryz.ntmps82
  go_wp2_with (first | (go_at_call 61; refine hw.mono ?_; rintro e w' ⟨rfl, rfl⟩) | (go_at_call 82; with_reducible refine hi1.mono ?_; rintro e w' ⟨rfl, rfl⟩) | (go_at_call 82; with_reducible refine hi2.mono ?_; rintro e w' ⟨rfl, rfl⟩))
  go_ret
  exact ⟨rfl, rfl⟩

set_option maxRecDepth 10000 in
set_option maxHeartbeats 1000000 in
theorem cl_or_no (v : Value) (i : Nat) (w : World) (hi : i ≤ 16777216) (hw : Calls Tryz.prog 61 #[v, .int .i64 i] w fun e w' => e = .returned (.string (bs wOr)) ∧ w' = w) (hi1 : Calls Tryz.prog 82 #[v, .int .i64 ((i : Int) + 1)] w fun e w' => e = .returned (.int .i64 (-1)) ∧ w' = w) :
    Calls Tryz.prog 82 #[v, .int .i64 i] w fun e w' => e = .returned (.int .i64 (-1)) ∧ w' = w := by
  have hbs := bs_toList3
  go_enter Tryz.func82, Tryz.ntmps82
  go_wp2_with (first | (go_at_call 61; refine hw.mono ?_; rintro e w' ⟨rfl, rfl⟩) | (go_at_call 82; with_reducible refine hi1.mono ?_; rintro e w' ⟨rfl, rfl⟩))
  go_ret
  exact ⟨rfl, rfl⟩

set_option maxRecDepth 10000 in
set_option maxHeartbeats 1000000 in
theorem cl_or_nob (v : Value) (i : Nat) (w : World) (hi : i ≤ 16777216) (a : Nat) (ha : a ≤ 8388608) (hw : Calls Tryz.prog 61 #[v, .int .i64 i] w fun e w' => e = .returned (.string (bs wOr)) ∧ w' = w) (hi1 : Calls Tryz.prog 82 #[v, .int .i64 ((i : Int) + 1)] w fun e w' => e = .returned (.int .i64 (a : Int)) ∧ w' = w) (hi2 : Calls Tryz.prog 82 #[v, .int .i64 ((i : Int) + 1 + a)] w fun e w' => e = .returned (.int .i64 (-1)) ∧ w' = w) :
    Calls Tryz.prog 82 #[v, .int .i64 i] w fun e w' => e = .returned (.int .i64 (-1)) ∧ w' = w := by
  have hbs := bs_toList3
  go_enter Tryz.func82, Tryz.ntmps82
  go_wp2_with (first | (go_at_call 61; refine hw.mono ?_; rintro e w' ⟨rfl, rfl⟩) | (go_at_call 82; with_reducible refine hi1.mono ?_; rintro e w' ⟨rfl, rfl⟩) | (go_at_call 82; with_reducible refine hi2.mono ?_; rintro e w' ⟨rfl, rfl⟩))
  go_ret
  exact ⟨rfl, rfl⟩

set_option maxRecDepth 10000 in
set_option maxHeartbeats 1000000 in
theorem cl_or_yes (v : Value) (i : Nat) (w : World) (hi : i ≤ 16777216) (a b : Nat) (ha : a ≤ 8388608) (hb : b ≤ 8388608) (hw : Calls Tryz.prog 61 #[v, .int .i64 i] w fun e w' => e = .returned (.string (bs wOr)) ∧ w' = w) (hi1 : Calls Tryz.prog 82 #[v, .int .i64 ((i : Int) + 1)] w fun e w' => e = .returned (.int .i64 (a : Int)) ∧ w' = w) (hi2 : Calls Tryz.prog 82 #[v, .int .i64 ((i : Int) + 1 + a)] w fun e w' => e = .returned (.int .i64 (b : Int)) ∧ w' = w) :
    Calls Tryz.prog 82 #[v, .int .i64 i] w fun e w' => e = .returned (.int .i64 (a + b + 1)) ∧ w' = w := by
  have hbs := bs_toList3
  go_enter Tryz.func82, Tryz.ntmps82
  go_wp2_with (first | (go_at_call 61; refine hw.mono ?_; rintro e w' ⟨rfl, rfl⟩) | (go_at_call 82; with_reducible refine hi1.mono ?_; rintro e w' ⟨rfl, rfl⟩) | (go_at_call 82; with_reducible refine hi2.mono ?_; rintro e w' ⟨rfl, rfl⟩))
  go_ret
  exact ⟨rfl, rfl⟩
end Go.Proofs.YtiekijfmafklfaaGreatDoor
