import Derived.Test.YtiekijfmafklfaaGreatDoorRefF
import Derived.Test.YtiekijfmafklfaaGreatDoorPure2
namespace Go.Proofs.YtiekijfmafklfaaGreatDoor
open Go.RowKit

theorem bs_toList2 (l : List UInt8) : (bs l).toList = l := by rw [ByteArray.toList_eq]; rfl
theorem wordAt_drop (ws : List (List UInt8)) (i : Nat) : (∃ x r, ws.drop i = x :: r ∧ wordAt ws i = x ∧ ws.drop (i + 1) = r ∧ i < ws.length) ∨ (ws.drop i = [] ∧ wordAt ws i = [] ∧ ws.length ≤ i) := by
  by_cases h : i < ws.length
  · left
    exact ⟨ws[i], ws.drop (i + 1), List.drop_eq_getElem_cons h, by simp [wordAt, h], rfl, h⟩
  · right
    exact ⟨List.drop_of_length_le (by omega), by simp [wordAt, h], by omega⟩

set_option maxRecDepth 10000 in
set_option maxHeartbeats 1000000 in
theorem cl_any (v : Value) (i : Nat) (w : World) (_hi : i ≤ 16777216) (hw : Calls Tryz.prog 61 #[v, .int .i64 i] w fun e w' => e = .returned (.string (bs wAny)) ∧ w' = w) :
    Calls Tryz.prog 82 #[v, .int .i64 i] w fun e w' => e = .returned (.int .i64 1) ∧ w' = w := by
  have hbs := bs_toList2
  go_enter Tryz.func82, Tryz.ntmps82
  go_wp2_with (go_at_call 61; refine hw.mono ?_; rintro e w' ⟨rfl, rfl⟩)
  go_ret
  exact ⟨rfl, rfl⟩

set_option maxRecDepth 10000 in
set_option maxHeartbeats 1000000 in
theorem cl_eq (v : Value) (i : Nat) (w : World) (_hi : i ≤ 16777216) (hw : Calls Tryz.prog 61 #[v, .int .i64 i] w fun e w' => e = .returned (.string (bs wEq)) ∧ w' = w) :
    Calls Tryz.prog 82 #[v, .int .i64 i] w fun e w' => e = .returned (.int .i64 3) ∧ w' = w := by
  have hbs := bs_toList2
  go_enter Tryz.func82, Tryz.ntmps82
  go_wp2_with (go_at_call 61; refine hw.mono ?_; rintro e w' ⟨rfl, rfl⟩)
  go_ret
  exact ⟨rfl, rfl⟩

set_option maxRecDepth 10000 in
set_option maxHeartbeats 1000000 in
theorem cl_lt (v : Value) (i : Nat) (w : World) (_hi : i ≤ 16777216) (hw : Calls Tryz.prog 61 #[v, .int .i64 i] w fun e w' => e = .returned (.string (bs wLt)) ∧ w' = w) :
    Calls Tryz.prog 82 #[v, .int .i64 i] w fun e w' => e = .returned (.int .i64 3) ∧ w' = w := by
  have hbs := bs_toList2
  go_enter Tryz.func82, Tryz.ntmps82
  go_wp2_with (go_at_call 61; refine hw.mono ?_; rintro e w' ⟨rfl, rfl⟩)
  go_ret
  exact ⟨rfl, rfl⟩

set_option maxRecDepth 10000 in
set_option maxHeartbeats 1000000 in
theorem cl_same (v : Value) (i : Nat) (w : World) (_hi : i ≤ 16777216) (hw : Calls Tryz.prog 61 #[v, .int .i64 i] w fun e w' => e = .returned (.string (bs wSame)) ∧ w' = w) :
    Calls Tryz.prog 82 #[v, .int .i64 i] w fun e w' => e = .returned (.int .i64 3) ∧ w' = w := by
  have hbs := bs_toList2
  go_enter Tryz.func82, Tryz.ntmps82
  go_wp2_with (go_at_call 61; refine hw.mono ?_; rintro e w' ⟨rfl, rfl⟩)
  go_ret
  exact ⟨rfl, rfl⟩

set_option maxRecDepth 10000 in
set_option maxHeartbeats 1000000 in
theorem cl_in (v : Value) (i : Nat) (w : World) (_hi : i ≤ 16777216) (hw : Calls Tryz.prog 61 #[v, .int .i64 i] w fun e w' => e = .returned (.string (bs wIn)) ∧ w' = w) :
    Calls Tryz.prog 82 #[v, .int .i64 i] w fun e w' => e = .returned (.int .i64 5) ∧ w' = w := by
  have hbs := bs_toList2
  go_enter Tryz.func82, Tryz.ntmps82
  go_wp2_with (go_at_call 61; refine hw.mono ?_; rintro e w' ⟨rfl, rfl⟩)
  go_ret
  exact ⟨rfl, rfl⟩

set_option maxRecDepth 10000 in
set_option maxHeartbeats 1000000 in
theorem cl_none (v : Value) (i : Nat) (w : World) (_hi : i ≤ 16777216) (x : List UInt8) (n1 : (x == wAny) = false) (n2 : (x == wEq) = false) (n3 : (x == wLt) = false) (n4 : (x == wSame) = false) (n5 : (x == wIn) = false) (n6 : (x == wNot) = false) (n7 : (x == wAnd) = false) (n8 : (x == wOr) = false) (hw : Calls Tryz.prog 61 #[v, .int .i64 i] w fun e w' => e = .returned (.string (bs x)) ∧ w' = w) :
    Calls Tryz.prog 82 #[v, .int .i64 i] w fun e w' => e = .returned (.int .i64 (-1)) ∧ w' = w := by
  have hbs := bs_toList2
  go_enter Tryz.func82, Tryz.ntmps82
  go_wp2_with (go_at_call 61; refine hw.mono ?_; rintro e w' ⟨rfl, rfl⟩)
  go_ret
  exact ⟨rfl, rfl⟩
end Go.Proofs.YtiekijfmafklfaaGreatDoor
