import Derived.Test.YtnpjldffciociaaGreatDoorC01
namespace Go.Proofs.YtnpjldffciociaaGreatDoor
open Go.RowKit
set_option maxRecDepth 10000 in
set_option maxHeartbeats 1000000 in
theorem vl_none (a : Option Addr) (len cap i : Nat) (w : World) (_hi : i ≤ 1000) (_hl : len ≤ 60) (hh : Calls Tryz.prog 154 #[.slice a len cap, .int .i64 i] w fun e w' => e = .returned (.tuple #[.int .i64 (-1), .int .i64 0]) ∧ w' = w) :
    Calls Tryz.prog 106 #[.slice a len cap, .int .i64 i] w fun e w' => e = .returned (.int .i64 (-1)) ∧ w' = w := by
  go_enter Tryz.func106, Tryz.ntmps106
  go_wp2_with (go_at_call 154; with_reducible refine hh.mono ?_; rintro e w' ⟨rfl, rfl⟩)
  go_ret
  exact ⟨rfl, rfl⟩
set_option maxRecDepth 10000 in
set_option maxHeartbeats 1000000 in
theorem vl_0_in (a : Option Addr) (len cap i : Nat) (w : World) (hi : i ≤ 1000) (hl : len ≤ 60) (h m m2 : Nat) (hh0 : h ≤ 400) (_hm : m ≤ 60) (_hm2 : m2 ≤ 60) (hh : Calls Tryz.prog 154 #[.slice a len cap, .int .i64 i] w fun e w' => e = .returned (.tuple #[.int .i64 (h : Int), .int .i64 0]) ∧ w' = w)  (hin : i + (h) ≤ len) :
    Calls Tryz.prog 106 #[.slice a len cap, .int .i64 i] w fun e w' => e = .returned (.int .i64 ((h : Int))) ∧ w' = w := by
  go_enter Tryz.func106, Tryz.ntmps106
  go_wp2_with (go_at_call 154; with_reducible refine hh.mono ?_; rintro e w' ⟨rfl, rfl⟩)
  refine wp_loop_rounds 1 ?_
  rw [rounds_succ]
  go_wp2_with (first | (go_at_call 154; with_reducible refine hh.mono ?_; rintro e w' ⟨rfl, rfl⟩))
  go_ret
  exact ⟨rfl, rfl⟩
set_option maxRecDepth 10000 in
set_option maxHeartbeats 1000000 in
theorem vl_0_out (a : Option Addr) (len cap i : Nat) (w : World) (hi : i ≤ 1000) (hl : len ≤ 60) (h m m2 : Nat) (hh0 : h ≤ 400) (_hm : m ≤ 60) (_hm2 : m2 ≤ 60) (hh : Calls Tryz.prog 154 #[.slice a len cap, .int .i64 i] w fun e w' => e = .returned (.tuple #[.int .i64 (h : Int), .int .i64 0]) ∧ w' = w)  (hin : len < i + (h)) :
    Calls Tryz.prog 106 #[.slice a len cap, .int .i64 i] w fun e w' => e = .returned (.int .i64 (-1)) ∧ w' = w := by
  go_enter Tryz.func106, Tryz.ntmps106
  go_wp2_with (go_at_call 154; with_reducible refine hh.mono ?_; rintro e w' ⟨rfl, rfl⟩)
  refine wp_loop_rounds 1 ?_
  rw [rounds_succ]
  go_wp2_with (first | (go_at_call 154; with_reducible refine hh.mono ?_; rintro e w' ⟨rfl, rfl⟩))
  go_ret
  exact ⟨rfl, rfl⟩
set_option maxRecDepth 10000 in
set_option maxHeartbeats 1000000 in
theorem vl_1no (a : Option Addr) (len cap i : Nat) (w : World) (hi : i ≤ 1000) (_hl : len ≤ 60) (h m m2 : Nat) (hh0 : h ≤ 400) (_hm : m ≤ 60) (_hm2 : m2 ≤ 60) (hh : Calls Tryz.prog 154 #[.slice a len cap, .int .i64 i] w fun e w' => e = .returned (.tuple #[.int .i64 (h : Int), .int .i64 1]) ∧ w' = w) (r1 : Calls Tryz.prog 106 #[.slice a len cap, .int .i64 ((i : Int) + h)] w fun e w' => e = .returned (.int .i64 (-1)) ∧ w' = w) :
    Calls Tryz.prog 106 #[.slice a len cap, .int .i64 i] w fun e w' => e = .returned (.int .i64 (-1)) ∧ w' = w := by
  go_enter Tryz.func106, Tryz.ntmps106
  go_wp2_with (go_at_call 154; with_reducible refine hh.mono ?_; rintro e w' ⟨rfl, rfl⟩)
  refine wp_loop_rounds 2 ?_
  rw [rounds_succ]
  go_wp2_with (first | (go_at_call 154; with_reducible refine hh.mono ?_; rintro e w' ⟨rfl, rfl⟩) | (go_at_call 106; with_reducible refine r1.mono ?_; rintro e w' ⟨rfl, rfl⟩))
  go_ret
  exact ⟨rfl, rfl⟩
set_option maxRecDepth 10000 in
set_option maxHeartbeats 1000000 in
theorem vl_1_in (a : Option Addr) (len cap i : Nat) (w : World) (hi : i ≤ 1000) (hl : len ≤ 60) (h m m2 : Nat) (hh0 : h ≤ 400) (hm : m ≤ 60) (_hm2 : m2 ≤ 60) (hh : Calls Tryz.prog 154 #[.slice a len cap, .int .i64 i] w fun e w' => e = .returned (.tuple #[.int .i64 (h : Int), .int .i64 1]) ∧ w' = w) (r1 : Calls Tryz.prog 106 #[.slice a len cap, .int .i64 ((i : Int) + h)] w fun e w' => e = .returned (.int .i64 (m : Int)) ∧ w' = w) (hin : i + (h + m) ≤ len) :
    Calls Tryz.prog 106 #[.slice a len cap, .int .i64 i] w fun e w' => e = .returned (.int .i64 ((h : Int) + m)) ∧ w' = w := by
  go_enter Tryz.func106, Tryz.ntmps106
  go_wp2_with (go_at_call 154; with_reducible refine hh.mono ?_; rintro e w' ⟨rfl, rfl⟩)
  refine wp_loop_rounds 2 ?_
  rw [rounds_succ]
  go_wp2_with (first | (go_at_call 154; with_reducible refine hh.mono ?_; rintro e w' ⟨rfl, rfl⟩) | (go_at_call 106; with_reducible refine r1.mono ?_; rintro e w' ⟨rfl, rfl⟩))
  rw [rounds_succ]
  go_wp2_with (first | (go_at_call 154; with_reducible refine hh.mono ?_; rintro e w' ⟨rfl, rfl⟩) | (go_at_call 106; with_reducible refine r1.mono ?_; rintro e w' ⟨rfl, rfl⟩))
  go_ret
  exact ⟨rfl, rfl⟩
set_option maxRecDepth 10000 in
set_option maxHeartbeats 1000000 in
theorem vl_1_out (a : Option Addr) (len cap i : Nat) (w : World) (hi : i ≤ 1000) (hl : len ≤ 60) (h m m2 : Nat) (hh0 : h ≤ 400) (hm : m ≤ 60) (_hm2 : m2 ≤ 60) (hh : Calls Tryz.prog 154 #[.slice a len cap, .int .i64 i] w fun e w' => e = .returned (.tuple #[.int .i64 (h : Int), .int .i64 1]) ∧ w' = w) (r1 : Calls Tryz.prog 106 #[.slice a len cap, .int .i64 ((i : Int) + h)] w fun e w' => e = .returned (.int .i64 (m : Int)) ∧ w' = w) (hin : len < i + (h + m)) :
    Calls Tryz.prog 106 #[.slice a len cap, .int .i64 i] w fun e w' => e = .returned (.int .i64 (-1)) ∧ w' = w := by
  go_enter Tryz.func106, Tryz.ntmps106
  go_wp2_with (go_at_call 154; with_reducible refine hh.mono ?_; rintro e w' ⟨rfl, rfl⟩)
  refine wp_loop_rounds 2 ?_
  rw [rounds_succ]
  go_wp2_with (first | (go_at_call 154; with_reducible refine hh.mono ?_; rintro e w' ⟨rfl, rfl⟩) | (go_at_call 106; with_reducible refine r1.mono ?_; rintro e w' ⟨rfl, rfl⟩))
  rw [rounds_succ]
  go_wp2_with (first | (go_at_call 154; with_reducible refine hh.mono ?_; rintro e w' ⟨rfl, rfl⟩) | (go_at_call 106; with_reducible refine r1.mono ?_; rintro e w' ⟨rfl, rfl⟩))
  go_ret
  exact ⟨rfl, rfl⟩
set_option maxRecDepth 10000 in
set_option maxHeartbeats 1000000 in
theorem vl_2no1 (a : Option Addr) (len cap i : Nat) (w : World) (hi : i ≤ 1000) (_hl : len ≤ 60) (h m m2 : Nat) (hh0 : h ≤ 400) (_hm : m ≤ 60) (_hm2 : m2 ≤ 60) (hh : Calls Tryz.prog 154 #[.slice a len cap, .int .i64 i] w fun e w' => e = .returned (.tuple #[.int .i64 (h : Int), .int .i64 2]) ∧ w' = w) (r1 : Calls Tryz.prog 106 #[.slice a len cap, .int .i64 ((i : Int) + h)] w fun e w' => e = .returned (.int .i64 (-1)) ∧ w' = w) :
    Calls Tryz.prog 106 #[.slice a len cap, .int .i64 i] w fun e w' => e = .returned (.int .i64 (-1)) ∧ w' = w := by
  go_enter Tryz.func106, Tryz.ntmps106
  go_wp2_with (go_at_call 154; with_reducible refine hh.mono ?_; rintro e w' ⟨rfl, rfl⟩)
  refine wp_loop_rounds 3 ?_
  rw [rounds_succ]
  go_wp2_with (first | (go_at_call 154; with_reducible refine hh.mono ?_; rintro e w' ⟨rfl, rfl⟩) | (go_at_call 106; with_reducible refine r1.mono ?_; rintro e w' ⟨rfl, rfl⟩))
  go_ret
  exact ⟨rfl, rfl⟩
set_option maxRecDepth 10000 in
set_option maxHeartbeats 1000000 in
theorem vl_2no2 (a : Option Addr) (len cap i : Nat) (w : World) (hi : i ≤ 1000) (_hl : len ≤ 60) (h m m2 : Nat) (hh0 : h ≤ 400) (hm : m ≤ 60) (_hm2 : m2 ≤ 60) (hh : Calls Tryz.prog 154 #[.slice a len cap, .int .i64 i] w fun e w' => e = .returned (.tuple #[.int .i64 (h : Int), .int .i64 2]) ∧ w' = w) (r1 : Calls Tryz.prog 106 #[.slice a len cap, .int .i64 ((i : Int) + h)] w fun e w' => e = .returned (.int .i64 (m : Int)) ∧ w' = w) (r2 : Calls Tryz.prog 106 #[.slice a len cap, .int .i64 ((i : Int) + ((h : Int) + m))] w fun e w' => e = .returned (.int .i64 (-1)) ∧ w' = w) :
    Calls Tryz.prog 106 #[.slice a len cap, .int .i64 i] w fun e w' => e = .returned (.int .i64 (-1)) ∧ w' = w := by
  go_enter Tryz.func106, Tryz.ntmps106
  go_wp2_with (go_at_call 154; with_reducible refine hh.mono ?_; rintro e w' ⟨rfl, rfl⟩)
  refine wp_loop_rounds 3 ?_
  rw [rounds_succ]
  go_wp2_with (first | (go_at_call 154; with_reducible refine hh.mono ?_; rintro e w' ⟨rfl, rfl⟩) | (go_at_call 106; with_reducible refine r1.mono ?_; rintro e w' ⟨rfl, rfl⟩) | (go_at_call 106; with_reducible refine r2.mono ?_; rintro e w' ⟨rfl, rfl⟩))
  rw [rounds_succ]
  go_wp2_with (first | (go_at_call 154; with_reducible refine hh.mono ?_; rintro e w' ⟨rfl, rfl⟩) | (go_at_call 106; with_reducible refine r1.mono ?_; rintro e w' ⟨rfl, rfl⟩) | (go_at_call 106; with_reducible refine r2.mono ?_; rintro e w' ⟨rfl, rfl⟩))
  go_ret
  exact ⟨rfl, rfl⟩
set_option maxRecDepth 10000 in
set_option maxHeartbeats 1000000 in
theorem vl_2_in (a : Option Addr) (len cap i : Nat) (w : World) (hi : i ≤ 1000) (hl : len ≤ 60) (h m m2 : Nat) (hh0 : h ≤ 400) (hm : m ≤ 60) (hm2 : m2 ≤ 60) (hh : Calls Tryz.prog 154 #[.slice a len cap, .int .i64 i] w fun e w' => e = .returned (.tuple #[.int .i64 (h : Int), .int .i64 2]) ∧ w' = w) (r1 : Calls Tryz.prog 106 #[.slice a len cap, .int .i64 ((i : Int) + h)] w fun e w' => e = .returned (.int .i64 (m : Int)) ∧ w' = w) (r2 : Calls Tryz.prog 106 #[.slice a len cap, .int .i64 ((i : Int) + ((h : Int) + m))] w fun e w' => e = .returned (.int .i64 (m2 : Int)) ∧ w' = w) (hin : i + (h + m + m2) ≤ len) :
    Calls Tryz.prog 106 #[.slice a len cap, .int .i64 i] w fun e w' => e = .returned (.int .i64 ((h : Int) + m + m2)) ∧ w' = w := by
  go_enter Tryz.func106, Tryz.ntmps106
  go_wp2_with (go_at_call 154; with_reducible refine hh.mono ?_; rintro e w' ⟨rfl, rfl⟩)
  refine wp_loop_rounds 3 ?_
  rw [rounds_succ]
  go_wp2_with (first | (go_at_call 154; with_reducible refine hh.mono ?_; rintro e w' ⟨rfl, rfl⟩) | (go_at_call 106; with_reducible refine r1.mono ?_; rintro e w' ⟨rfl, rfl⟩) | (go_at_call 106; with_reducible refine r2.mono ?_; rintro e w' ⟨rfl, rfl⟩))
  rw [rounds_succ]
  go_wp2_with (first | (go_at_call 154; with_reducible refine hh.mono ?_; rintro e w' ⟨rfl, rfl⟩) | (go_at_call 106; with_reducible refine r1.mono ?_; rintro e w' ⟨rfl, rfl⟩) | (go_at_call 106; with_reducible refine r2.mono ?_; rintro e w' ⟨rfl, rfl⟩))
  rw [rounds_succ]
  go_wp2_with (first | (go_at_call 154; with_reducible refine hh.mono ?_; rintro e w' ⟨rfl, rfl⟩) | (go_at_call 106; with_reducible refine r1.mono ?_; rintro e w' ⟨rfl, rfl⟩) | (go_at_call 106; with_reducible refine r2.mono ?_; rintro e w' ⟨rfl, rfl⟩))
  go_ret
  exact ⟨rfl, rfl⟩
set_option maxRecDepth 10000 in
set_option maxHeartbeats 1000000 in
theorem vl_2_out (a : Option Addr) (len cap i : Nat) (w : World) (hi : i ≤ 1000) (hl : len ≤ 60) (h m m2 : Nat) (hh0 : h ≤ 400) (hm : m ≤ 60) (hm2 : m2 ≤ 60) (hh : Calls Tryz.prog 154 #[.slice a len cap, .int .i64 i] w fun e w' => e = .returned (.tuple #[.int .i64 (h : Int), .int .i64 2]) ∧ w' = w) (r1 : Calls Tryz.prog 106 #[.slice a len cap, .int .i64 ((i : Int) + h)] w fun e w' => e = .returned (.int .i64 (m : Int)) ∧ w' = w) (r2 : Calls Tryz.prog 106 #[.slice a len cap, .int .i64 ((i : Int) + ((h : Int) + m))] w fun e w' => e = .returned (.int .i64 (m2 : Int)) ∧ w' = w) (hin : len < i + (h + m + m2)) :
    Calls Tryz.prog 106 #[.slice a len cap, .int .i64 i] w fun e w' => e = .returned (.int .i64 (-1)) ∧ w' = w := by
  go_enter Tryz.func106, Tryz.ntmps106
  go_wp2_with (go_at_call 154; with_reducible refine hh.mono ?_; rintro e w' ⟨rfl, rfl⟩)
  refine wp_loop_rounds 3 ?_
  rw [rounds_succ]
  go_wp2_with (first | (go_at_call 154; with_reducible refine hh.mono ?_; rintro e w' ⟨rfl, rfl⟩) | (go_at_call 106; with_reducible refine r1.mono ?_; rintro e w' ⟨rfl, rfl⟩) | (go_at_call 106; with_reducible refine r2.mono ?_; rintro e w' ⟨rfl, rfl⟩))
  rw [rounds_succ]
  go_wp2_with (first | (go_at_call 154; with_reducible refine hh.mono ?_; rintro e w' ⟨rfl, rfl⟩) | (go_at_call 106; with_reducible refine r1.mono ?_; rintro e w' ⟨rfl, rfl⟩) | (go_at_call 106; with_reducible refine r2.mono ?_; rintro e w' ⟨rfl, rfl⟩))
  rw [rounds_succ]
  go_wp2_with (first | (go_at_call 154; with_reducible refine hh.mono ?_; rintro e w' ⟨rfl, rfl⟩) | (go_at_call 106; with_reducible refine r1.mono ?_; rintro e w' ⟨rfl, rfl⟩) | (go_at_call 106; with_reducible refine r2.mono ?_; rintro e w' ⟨rfl, rfl⟩))
  go_ret
  exact ⟨rfl, rfl⟩
end Go.Proofs.YtnpjldffciociaaGreatDoor
namespace Go.Proofs.YtnpjldffciociaaGreatDoor
open Go.RowKit

theorem headR_le {x : List UInt8} {r : List (List UInt8)} {h k : Nat} (e : headR x r = some (h, k)) : h ≤ 5 * r.length + 2 ∧ k ≤ 2 := by
  unfold headR at e
  split at e
  · simp at e; omega
  · split at e
    · cases e
    · rename_i n hn
      have := condLen_le _ r (Nat.le_refl _) n hn
      simp at e; omega
  all_goals first | (simp at e; omega) | cases e

set_option maxRecDepth 10000 in
theorem viewLen_any (ws : List (List UInt8)) (hl : ws.length ≤ 60) (k : Nat) : ∀ (v : Value) (i : Nat) (w : World), ws.length < i + k → i ≤ 1000 → Reads w v (ws.map fun l => .string (bs l)) →
    Calls Tryz.prog 106 #[v, .int .i64 i] w fun e w' => e = .returned (.int .i64 (idxOf (viewLen (ws.drop i)))) ∧ w' = w := by
  induction k with
  | zero =>
    intro v i w hk hi hv
    have hh := heads_any ws v i w hl hi hv
    have hd : ws.drop i = [] := List.drop_of_length_le (by omega)
    obtain ⟨a, cap, rfl, _⟩ := hv
    rw [hd] at hh ⊢
    rw [List.length_map] at hh ⊢
    simp only [viewLen_nil, idxOf]
    exact vl_none a _ cap i w hi hl hh
  | succ k ih =>
    intro v i w hk hi hv
    have hh := heads_any ws v i w hl hi hv
    rcases wordAt_drop ws i with ⟨x, r, h1, h2, h3, h4⟩ | ⟨h1, h2, h3⟩
    case inr =>
      obtain ⟨a, cap, rfl, _⟩ := hv
      rw [h1] at hh ⊢
      rw [List.length_map] at hh ⊢
      simp only [viewLen_nil, idxOf]
      exact vl_none a _ cap i w hi hl hh
    have hrl : r.length + 1 + i = ws.length := by
      have := congrArg List.length h1
      simp at this; omega
    have ihr : ∀ g : Nat, 1 ≤ g → i + g ≤ 1000 → Calls Tryz.prog 106 #[v, .int .i64 ((i : Int) + g)] w fun e w' => e = .returned (.int .i64 (idxOf (viewLen (r.drop (g - 1))))) ∧ w' = w := by
      intro g hg hgi
      have := ih v (i + g) w (by omega) (by omega) hv
      have e : ws.drop (i + g) = r.drop (g - 1) := by
        rw [← h3, List.drop_drop]
        congr 1; omega
      rw [e] at this
      simpa using this
    clear ih
    obtain ⟨a, cap, rfl, _⟩ := hv
    rw [h1] at hh ⊢
    rw [List.length_map] at hh ihr ⊢
    simp only [headsI] at hh
    rw [viewLen_cons]
    cases hr : headR x r with
    | none =>
      rw [hr] at hh
      exact vl_none a _ cap i w hi hl hh
    | some p =>
      obtain ⟨h, kids⟩ := p
      rw [hr] at hh
      have hle := headR_le hr
      simp only [] at hh ⊢
      have ec : ((h : Int) + 1) = ((h + 1 : Nat) : Int) := by omega
      rw [ec] at hh
      have r1 := ihr (h + 1) (by omega) (by omega)
      rw [Nat.add_sub_cancel] at r1
      match kids, hle.2 with
      | 0, _ =>
        simp only [if_true]
        by_cases hin : i + (h + 1) ≤ ws.length
        · rw [show chk (r.length + 1) (h + 1) = some (h + 1) by simp [chk]; omega]
          exact vl_0_in a _ cap i w hi hl (h + 1) 0 0 (by omega) (by omega) (by omega) hh hin
        · rw [show chk (r.length + 1) (h + 1) = none by simp [chk]; omega]
          exact vl_0_out a _ cap i w hi hl (h + 1) 0 0 (by omega) (by omega) (by omega) hh (by omega)
      | 1, _ =>
        simp only [if_true, Nat.one_ne_zero, if_false]
        cases hm : viewLen (r.drop h) with
        | none =>
          rw [hm] at r1
          exact vl_1no a _ cap i w hi hl (h + 1) 0 0 (by omega) (by omega) (by omega) hh r1
        | some m =>
          rw [hm] at r1
          have hml := viewLen_le hm
          have hdl : (r.drop h).length ≤ r.length := by simp
          simp only []
          by_cases hin : i + (h + 1 + m) ≤ ws.length
          · rw [show chk (r.length + 1) (h + 1 + m) = some (h + 1 + m) by simp [chk]; omega]
            have := vl_1_in a _ cap i w hi hl (h + 1) m 0 (by omega) (by omega) (by omega) hh r1 hin
            simpa [idxOf] using this
          · rw [show chk (r.length + 1) (h + 1 + m) = none by simp [chk]; omega]
            exact vl_1_out a _ cap i w hi hl (h + 1) m 0 (by omega) (by omega) (by omega) hh r1 (by omega)
      | 2, _ =>
        simp only [show ¬ (2 = 0) by decide, show ¬ (2 = 1) by decide, if_false]
        cases hm : viewLen (r.drop h) with
        | none =>
          rw [hm] at r1
          exact vl_2no1 a _ cap i w hi hl (h + 1) 0 0 (by omega) (by omega) (by omega) hh r1
        | some m =>
          rw [hm] at r1
          have hml := viewLen_le hm
          have hdl : (r.drop h).length ≤ r.length := by simp
          have r2 := ihr (h + 1 + m) (by omega) (by omega)
          rw [show h + 1 + m - 1 = h + m by omega] at r2
          rw [show ((h + 1 + m : Nat) : Int) = ((h + 1 : Nat) : Int) + (m : Int) by omega] at r2
          simp only []
          cases hm2 : viewLen (r.drop (h + m)) with
          | none =>
            rw [hm2] at r2
            exact vl_2no2 a _ cap i w hi hl (h + 1) m 0 (by omega) (by omega) (by omega) hh r1 r2
          | some m2 =>
            rw [hm2] at r2
            have hml2 := viewLen_le hm2
            have hdl2 : (r.drop (h + m)).length ≤ r.length := by simp
            simp only []
            by_cases hin : i + (h + 1 + m + m2) ≤ ws.length
            · rw [show chk (r.length + 1) (h + 1 + m + m2) = some (h + 1 + m + m2) by simp [chk]; omega]
              have := vl_2_in a _ cap i w hi hl (h + 1) m m2 (by omega) (by omega) (by omega) hh r1 r2 hin
              simpa [idxOf] using this
            · rw [show chk (r.length + 1) (h + 1 + m + m2) = none by simp [chk]; omega]
              exact vl_2_out a _ cap i w hi hl (h + 1) m m2 (by omega) (by omega) (by omega) hh r1 r2 (by omega)
end Go.Proofs.YtnpjldffciociaaGreatDoor
