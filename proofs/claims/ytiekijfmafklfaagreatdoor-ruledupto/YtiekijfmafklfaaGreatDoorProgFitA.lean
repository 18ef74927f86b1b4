import Derived.Test.YtiekijfmafklfaaGreatDoorProgZ
import Derived.BigQuiet
namespace Go.Proofs.YtiekijfmafklfaaGreatDoor
open Go.RowKit

theorem quiet_c {P : Program} {f : FuncId} {args : Array Value} {w : World} {v : Value} (h : ∀ m, Calls P f args (w.drewN m) fun e w' => e = .returned v ∧ w' = w.drewN m) (m : Nat) :
    Calls P f args (w.drewN m) fun e w'' => e = .returned v ∧ ∃ k, w'' = w.drewN k := (h m).mono fun _ _ ⟨he, hw⟩ => ⟨he, m, hw⟩
theorem quiet_d {P : Program} {f : FuncId} {args : Array Value} {w : World} {v : Value} (h : ∀ m, Calls P f args (w.drewN m) fun e w' => e = .returned v ∧ w' = w.drewN m) (n m : Nat) :
    Calls P f args (w.drewN (n + m)) fun e w'' => e = .returned v ∧ ∃ k, w'' = w.drewN (n + k) := (h (n + m)).mono fun _ _ ⟨he, hw⟩ => ⟨he, m, hw⟩
theorem quiet_e {P : Program} {f : FuncId} {args : Array Value} {w : World} {v : Value} (h : ∀ m, Calls P f args (w.drewN m) fun e w' => e = .returned v ∧ w' = w.drewN m) (n m : Nat) :
    Calls P f args (w.drewN (n + m)) fun e w'' => e = .returned v ∧ ∃ k, w'' = (w.drewN n).drewN k := (h (n + m)).mono fun _ _ ⟨he, hw⟩ => ⟨he, m, by rw [hw, World.drewN_drewN]⟩
theorem CBk.cells {w : World} {b : Nat} {r : Raw} (h : CBk w b r) : w.cell? ⟨b, 0, none⟩ = some (.int .i64 r.test) ∧ w.cell? ⟨b, 1, none⟩ = some (.int .i64 r.col) ∧ w.cell? ⟨b, 2, none⟩ = some (.int .i64 r.vt) ∧ w.cell? ⟨b, 6, none⟩ = some (.int .i64 r.other) ∧
    w.cell? ⟨b, 7, none⟩ = some (.int .i64 r.table) ∧ w.cell? ⟨b, 8, none⟩ = some (.int .i64 r.mtch) ∧ w.cell? ⟨b, 9, none⟩ = some (.int .i64 r.who) ∧ w.cell? ⟨b, 10, none⟩ = some r.parts ∧ w.cell? ⟨b, 11, none⟩ = some (.int .i64 r.pl) := by
  refine ⟨?_, ?_, ?_, ?_, ?_, ?_, ?_, ?_, ?_⟩ <;> (rw [Lib.cell_of_heap h]; rfl)

set_option maxRecDepth 10000 in
set_option maxHeartbeats 1000000 in
theorem pfits_true (rb b : Nat) (vt : Value) (w : World) (t : Int) (c0 : w.cell? ⟨b, 0, none⟩ = some (.int .i64 t)) (ht : t = 0 ∨ t = 4 ∨ t = 5 ∨ t = 6) :
    Calls Tryz.prog 116 #[.pointer (some ⟨rb, 0, none⟩), .pointer (some ⟨b, 0, none⟩), vt] w fun e w' => e = .returned (.bool true) ∧ w' = w := by
  rcases ht with rfl | rfl | rfl | rfl
  all_goals
    go_enter Tryz.func116, Tryz.ntmps116
    go_wp2
    go_ret
    exact ⟨rfl, rfl⟩
set_option maxRecDepth 10000 in
set_option maxHeartbeats 1000000 in
theorem pfits_val (rb b a : Nat) (vt : Value) (w : World) (t x y : Int) (c0 : w.cell? ⟨b, 0, none⟩ = some (.int .i64 t)) (ht : t = 1 ∨ t = 2) (c1 : w.cell? ⟨b, 1, none⟩ = some (.int .i64 a)) (c2 : w.cell? ⟨b, 2, none⟩ = some (.int .i64 y))
    (hT : ∀ m, Calls Tryz.prog 90 #[vt, .int .i64 a] (w.drewN m) fun e w' => e = .returned (.int .i64 x) ∧ w' = w.drewN m) :
    Calls Tryz.prog 116 #[.pointer (some ⟨rb, 0, none⟩), .pointer (some ⟨b, 0, none⟩), vt] w fun e w' => e = .returned (.bool (decide (x = y))) ∧ ∃ n, w' = w.drewN n := by
  rcases ht with rfl | rfl
  all_goals
    go_enter Tryz.func116, Tryz.ntmps116
    go_wp2
    go_quiet (first | (go_at_call 90; exact quiet_c hT _) | (go_at_call 90; exact quiet_d hT _ _) | (go_at_call 90; exact quiet_e hT _ _))
    go_wp2
    go_ret
    exact ⟨ret_bool rfl, nq, rfl⟩
set_option maxRecDepth 10000 in
set_option maxHeartbeats 1000000 in
theorem pfits_same (rb b a o : Nat) (vt : Value) (w : World) (x : Bool) (c0 : w.cell? ⟨b, 0, none⟩ = some (.int .i64 3)) (c1 : w.cell? ⟨b, 1, none⟩ = some (.int .i64 a)) (c6 : w.cell? ⟨b, 6, none⟩ = some (.int .i64 o))
    (hT : ∀ m, Calls Tryz.prog 104 #[vt, .int .i64 a, vt, .int .i64 o] (w.drewN m) fun e w' => e = .returned (.bool x) ∧ w' = w.drewN m) :
    Calls Tryz.prog 116 #[.pointer (some ⟨rb, 0, none⟩), .pointer (some ⟨b, 0, none⟩), vt] w fun e w' => e = .returned (.bool x) ∧ ∃ n, w' = w.drewN n := by
  go_enter Tryz.func116, Tryz.ntmps116
  go_wp2
  go_quiet (first | (go_at_call 104; exact quiet_c hT _) | (go_at_call 104; exact quiet_d hT _ _) | (go_at_call 104; exact quiet_e hT _ _))
  go_wp2
  go_ret
  exact ⟨rfl, nq, rfl⟩
set_option maxRecDepth 10000 in
set_option maxHeartbeats 2000000 in
theorem pfits_in (rb b a t m o sb soff sn scap : Nat) (vt tv : Value) (w : World) (x : Bool) (y : Int) (c0 : w.cell? ⟨b, 0, none⟩ = some (.int .i64 7)) (c1 : w.cell? ⟨b, 1, none⟩ = some (.int .i64 a)) (c7 : w.cell? ⟨b, 7, none⟩ = some (.int .i64 t)) (c8 : w.cell? ⟨b, 8, none⟩ = some (.int .i64 m)) (c9 : w.cell? ⟨b, 9, none⟩ = some (.int .i64 o))
    (r0 : w.cell? ⟨rb, 0, none⟩ = some (.slice (some ⟨sb, soff, none⟩) sn scap)) (ht : t < sn) (_hsn : sn ≤ 1048577) (hs : w.cell? ⟨sb, soff + t * 2 + 1, none⟩ = some tv)
    (hA : ∀ k, Calls Tryz.prog 104 #[vt, .int .i64 a, tv, .int .i64 m] (w.drewN k) fun e w' => e = .returned (.bool x) ∧ w' = w.drewN k)
    (hT : ∀ k, Calls Tryz.prog 90 #[tv, .int .i64 o] (w.drewN k) fun e w' => e = .returned (.int .i64 y) ∧ w' = w.drewN k) :
    Calls Tryz.prog 116 #[.pointer (some ⟨rb, 0, none⟩), .pointer (some ⟨b, 0, none⟩), vt] w fun e w' => e = .returned (.bool (x && decide (y = 2))) ∧ ∃ n, w' = w.drewN n := by
  have hi : 0 ≤ (t : Int) ∧ (t : Int) < sn := by omega
  have hi2 : (t : Int) < sn := by omega
  cases x
  all_goals
    go_enter Tryz.func116, Tryz.ntmps116
    go_wp2
    go_quiet (fail)
    go_wp2
    go_quiet (first
      | (go_at_call 104; exact quiet_c hA _) | (go_at_call 104; exact quiet_d hA _ _) | (go_at_call 104; exact quiet_e hA _ _)
      | (go_at_call 90; exact quiet_c hT _) | (go_at_call 90; exact quiet_d hT _ _) | (go_at_call 90; exact quiet_e hT _ _))
    go_wp2
    go_ret
    exact ⟨ret_bool (by first | rfl | simp), _, World.drewN_drewN ..⟩
end Go.Proofs.YtiekijfmafklfaaGreatDoor
