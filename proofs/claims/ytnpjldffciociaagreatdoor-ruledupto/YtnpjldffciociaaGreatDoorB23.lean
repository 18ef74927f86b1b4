import Derived.Test.YtnpjldffciociaaGreatDoorB22
namespace Go.Proofs.YtnpjldffciociaaGreatDoor
open Go.RowKit

set_option maxRecDepth 10000 in
set_option maxHeartbeats 1000000 in
theorem ptest_any (rb : Nat) (w : World) (P : World → Prop)
    (hw : Calls Tryz.prog 156 #[.pointer (some ⟨rb, 0, none⟩)] w fun e w' => e = .returned (.string (bs wAny)) ∧ P w') :
    Calls Tryz.prog 286 #[.pointer (some ⟨rb, 0, none⟩)] w fun e w' => ∃ w1, P w1 ∧ e = .returned (.tuple #[.pointer (some ⟨w1.heap.size, 0, none⟩), .nilIface]) ∧
      w' = w1.alloc (.cells (leafRaw 0 0 0 0 ByteArray.empty false).row 436) := by
  have hbs := bs_toList2
  go_enter Tryz.func286, Tryz.ntmps286
  go_wp2_with (go_at_call 156; refine hw.mono ?_; rintro e w1 ⟨rfl, hP⟩)
  go_ret2
  exact ⟨w1, hP, rfl, rfl⟩
set_option maxRecDepth 10000 in
set_option maxHeartbeats 1000000 in
theorem ptest_none (rb : Nat) (x : List UInt8) (w : World) (P : World → Prop) (R : Value → World → Prop) (h1 : (x == wAny) = false) (h2 : (x == wEq) = false) (h3 : (x == wLt) = false) (h4 : (x == wSame) = false) (h5 : (x == wNot) = false) (h6 : (x == wAnd) = false) (h7 : (x == wOr) = false) (h8 : (x == wIn) = false)
    (hw : Calls Tryz.prog 156 #[.pointer (some ⟨rb, 0, none⟩)] w fun e w' => e = .returned (.string (bs x)) ∧ P w')
    (hr : ∀ w1 s, P w1 → Calls Tryz.prog 159 #[.pointer (some ⟨rb, 0, none⟩), .string s] w1 fun e w' => ∃ te pe, e = .returned (.iface te pe) ∧ R (.iface te pe) w') :
    Calls Tryz.prog 286 #[.pointer (some ⟨rb, 0, none⟩)] w fun e w' => ∃ te pe, e = .returned (.tuple #[.pointer none, .iface te pe]) ∧ R (.iface te pe) w' := by
  have hbs := bs_toList2
  go_enter Tryz.func286, Tryz.ntmps286
  go_wp2_with (first
    | (go_at_call 156; refine hw.mono ?_; rintro e w1 ⟨rfl, hP⟩)
    | (go_at_call 159; refine (hr _ _ hP).mono ?_; rintro e w2 ⟨te, pe, rfl, hR⟩))
  go_ret2
  exact ⟨te, pe, rfl, hR⟩
set_option maxRecDepth 10000 in
set_option maxHeartbeats 1000000 in
theorem ptest_eq (rb : Nat) (w : World) (P : World → Prop) (R : Value → Value → World → Prop)
    (hw : Calls Tryz.prog 156 #[.pointer (some ⟨rb, 0, none⟩)] w fun e w' => e = .returned (.string (bs wEq)) ∧ P w')
    (hr : ∀ w1, P w1 → Calls Tryz.prog 327 #[.pointer (some ⟨rb, 0, none⟩)] w1 fun e w' => ∃ a b, e = .returned (.tuple #[a, b]) ∧ R a b w') :
    Calls Tryz.prog 286 #[.pointer (some ⟨rb, 0, none⟩)] w fun e w' => ∃ a b, e = .returned (.tuple #[a, b]) ∧ R a b w' := by
  have hbs := bs_toList2
  go_enter Tryz.func286, Tryz.ntmps286
  go_wp2_with (first
    | (go_at_call 156; refine hw.mono ?_; rintro e w1 ⟨rfl, hP⟩)
    | (go_at_call 327; refine (hr _ hP).mono ?_; rintro e w2 ⟨a, b, rfl, hR⟩))
  go_ret2
  exact ⟨a, b, rfl, hR⟩
set_option maxRecDepth 10000 in
set_option maxHeartbeats 1000000 in
theorem ptest_lt (rb : Nat) (w : World) (P : World → Prop) (R : Value → Value → World → Prop)
    (hw : Calls Tryz.prog 156 #[.pointer (some ⟨rb, 0, none⟩)] w fun e w' => e = .returned (.string (bs wLt)) ∧ P w')
    (hr : ∀ w1, P w1 → Calls Tryz.prog 328 #[.pointer (some ⟨rb, 0, none⟩)] w1 fun e w' => ∃ a b, e = .returned (.tuple #[a, b]) ∧ R a b w') :
    Calls Tryz.prog 286 #[.pointer (some ⟨rb, 0, none⟩)] w fun e w' => ∃ a b, e = .returned (.tuple #[a, b]) ∧ R a b w' := by
  have hbs := bs_toList2
  go_enter Tryz.func286, Tryz.ntmps286
  go_wp2_with (first
    | (go_at_call 156; refine hw.mono ?_; rintro e w1 ⟨rfl, hP⟩)
    | (go_at_call 328; refine (hr _ hP).mono ?_; rintro e w2 ⟨a, b, rfl, hR⟩))
  go_ret2
  exact ⟨a, b, rfl, hR⟩
set_option maxRecDepth 10000 in
set_option maxHeartbeats 1000000 in
theorem ptest_same (rb : Nat) (w : World) (P : World → Prop) (R : Value → Value → World → Prop)
    (hw : Calls Tryz.prog 156 #[.pointer (some ⟨rb, 0, none⟩)] w fun e w' => e = .returned (.string (bs wSame)) ∧ P w')
    (hr : ∀ w1, P w1 → Calls Tryz.prog 329 #[.pointer (some ⟨rb, 0, none⟩)] w1 fun e w' => ∃ a b, e = .returned (.tuple #[a, b]) ∧ R a b w') :
    Calls Tryz.prog 286 #[.pointer (some ⟨rb, 0, none⟩)] w fun e w' => ∃ a b, e = .returned (.tuple #[a, b]) ∧ R a b w' := by
  have hbs := bs_toList2
  go_enter Tryz.func286, Tryz.ntmps286
  go_wp2_with (first
    | (go_at_call 156; refine hw.mono ?_; rintro e w1 ⟨rfl, hP⟩)
    | (go_at_call 329; refine (hr _ hP).mono ?_; rintro e w2 ⟨a, b, rfl, hR⟩))
  go_ret2
  exact ⟨a, b, rfl, hR⟩
set_option maxRecDepth 10000 in
set_option maxHeartbeats 1000000 in
theorem ptest_in (rb : Nat) (w : World) (P : World → Prop) (R : Value → Value → World → Prop)
    (hw : Calls Tryz.prog 156 #[.pointer (some ⟨rb, 0, none⟩)] w fun e w' => e = .returned (.string (bs wIn)) ∧ P w')
    (hr : ∀ w1, P w1 → Calls Tryz.prog 331 #[.pointer (some ⟨rb, 0, none⟩)] w1 fun e w' => ∃ a b, e = .returned (.tuple #[a, b]) ∧ R a b w') :
    Calls Tryz.prog 286 #[.pointer (some ⟨rb, 0, none⟩)] w fun e w' => ∃ a b, e = .returned (.tuple #[a, b]) ∧ R a b w' := by
  have hbs := bs_toList2
  go_enter Tryz.func286, Tryz.ntmps286
  go_wp2_with (first
    | (go_at_call 156; refine hw.mono ?_; rintro e w1 ⟨rfl, hP⟩)
    | (go_at_call 331; refine (hr _ hP).mono ?_; rintro e w2 ⟨a, b, rfl, hR⟩))
  go_ret2
  exact ⟨a, b, rfl, hR⟩
set_option maxRecDepth 10000 in
set_option maxHeartbeats 1000000 in
theorem ptest_not (rb : Nat) (w : World) (P : World → Prop) (R : Value → Value → World → Prop)
    (hw : Calls Tryz.prog 156 #[.pointer (some ⟨rb, 0, none⟩)] w fun e w' => e = .returned (.string (bs wNot)) ∧ P w')
    (hr : ∀ w1, P w1 → Calls Tryz.prog 330 #[.pointer (some ⟨rb, 0, none⟩), .int .i64 4, .int .i64 1] w1 fun e w' => ∃ a b, e = .returned (.tuple #[a, b]) ∧ R a b w') :
    Calls Tryz.prog 286 #[.pointer (some ⟨rb, 0, none⟩)] w fun e w' => ∃ a b, e = .returned (.tuple #[a, b]) ∧ R a b w' := by
  have hbs := bs_toList2
  go_enter Tryz.func286, Tryz.ntmps286
  go_wp2_with (first
    | (go_at_call 156; refine hw.mono ?_; rintro e w1 ⟨rfl, hP⟩)
    | (go_at_call 330; refine (hr _ hP).mono ?_; rintro e w2 ⟨a, b, rfl, hR⟩))
  go_ret2
  exact ⟨a, b, rfl, hR⟩
set_option maxRecDepth 10000 in
set_option maxHeartbeats 1000000 in
theorem ptest_and (rb : Nat) (w : World) (P : World → Prop) (R : Value → Value → World → Prop)
    (hw : Calls Tryz.prog 156 #[.pointer (some ⟨rb, 0, none⟩)] w fun e w' => e = .returned (.string (bs wAnd)) ∧ P w')
    (hr : ∀ w1, P w1 → Calls Tryz.prog 330 #[.pointer (some ⟨rb, 0, none⟩), .int .i64 5, .int .i64 2] w1 fun e w' => ∃ a b, e = .returned (.tuple #[a, b]) ∧ R a b w') :
    Calls Tryz.prog 286 #[.pointer (some ⟨rb, 0, none⟩)] w fun e w' => ∃ a b, e = .returned (.tuple #[a, b]) ∧ R a b w' := by
  have hbs := bs_toList2
  go_enter Tryz.func286, Tryz.ntmps286
  go_wp2_with (first
    | (go_at_call 156; refine hw.mono ?_; rintro e w1 ⟨rfl, hP⟩)
    | (go_at_call 330; refine (hr _ hP).mono ?_; rintro e w2 ⟨a, b, rfl, hR⟩))
  go_ret2
  exact ⟨a, b, rfl, hR⟩
set_option maxRecDepth 10000 in
set_option maxHeartbeats 1000000 in
theorem ptest_or (rb : Nat) (w : World) (P : World → Prop) (R : Value → Value → World → Prop)
    (hw : Calls Tryz.prog 156 #[.pointer (some ⟨rb, 0, none⟩)] w fun e w' => e = .returned (.string (bs wOr)) ∧ P w')
    (hr : ∀ w1, P w1 → Calls Tryz.prog 330 #[.pointer (some ⟨rb, 0, none⟩), .int .i64 6, .int .i64 2] w1 fun e w' => ∃ a b, e = .returned (.tuple #[a, b]) ∧ R a b w') :
    Calls Tryz.prog 286 #[.pointer (some ⟨rb, 0, none⟩)] w fun e w' => ∃ a b, e = .returned (.tuple #[a, b]) ∧ R a b w' := by
  have hbs := bs_toList2
  go_enter Tryz.func286, Tryz.ntmps286
  go_wp2_with (first
    | (go_at_call 156; refine hw.mono ?_; rintro e w1 ⟨rfl, hP⟩)
    | (go_at_call 330; refine (hr _ hP).mono ?_; rintro e w2 ⟨a, b, rfl, hR⟩))
  go_ret2
  exact ⟨a, b, rfl, hR⟩
set_option maxRecDepth 10000 in
set_option maxHeartbeats 1000000 in
theorem pcond_no (rb taken : Nat) (w : World) (errno : Int) (P : World → Prop)
    (hp : Calls Tryz.prog 151 #[.pointer (some ⟨rb, 0, none⟩)] w fun e w' => e = .returned (.int .i64 ((taken : Int) + 1)) ∧ w' = w)
    (ht : Calls Tryz.prog 286 #[.pointer (some ⟨rb, 0, none⟩)] w fun e w' => ∃ te pe, e = .returned (.tuple #[.pointer none, .iface te pe]) ∧ Err w' errno (.iface te pe) ∧ P w') :
    Calls Tryz.prog 243 #[.pointer (some ⟨rb, 0, none⟩)] w fun e w' => ∃ te pe w1, e = .returned (.tuple #[.pointer none, .iface te pe]) ∧ Err w' errno (.iface te pe) ∧ P w1 ∧ Below w1.heap.size w1 w' := by
  go_enter Tryz.func243, Tryz.ntmps243
  go_wp2_with (first
    | (go_at_call 151; refine hp.mono ?_; rintro e w' ⟨rfl, hw⟩; obtain rfl := hw.symm)
    | (go_at_call 286; refine ht.mono ?_; rintro e w1 ⟨te, pe, rfl, hE, hP⟩))
  go_ret2
  exact ⟨_, _, w1, rfl, hE.wrap _ _, hP, (Below.refl _ _).alloc (Nat.le_refl _) _⟩
set_option maxRecDepth 10000 in
set_option maxHeartbeats 1000000 in
theorem pcond_yes (rb taken : Nat) (w : World) (P : Nat → World → Prop)
    (hp : Calls Tryz.prog 151 #[.pointer (some ⟨rb, 0, none⟩)] w fun e w' => e = .returned (.int .i64 ((taken : Int) + 1)) ∧ w' = w)
    (ht : Calls Tryz.prog 286 #[.pointer (some ⟨rb, 0, none⟩)] w fun e w' => ∃ b r, e = .returned (.tuple #[.pointer (some ⟨b, 0, none⟩), .nilIface]) ∧ CBk w' b r ∧ P b w') :
    Calls Tryz.prog 243 #[.pointer (some ⟨rb, 0, none⟩)] w fun e w' => ∃ b w1, e = .returned (.tuple #[.pointer (some ⟨b, 0, none⟩), .nilIface]) ∧ P b w1 ∧ w' = w1.setCell ⟨b, 11, none⟩ (.int .i64 ((taken : Int) + 1)) := by
  go_enter Tryz.func243, Tryz.ntmps243
  go_wp2_with (first
    | (go_at_call 151; refine hp.mono ?_; rintro e w' ⟨rfl, hw⟩; obtain rfl := hw.symm)
    | (go_at_call 286; refine ht.mono ?_; rintro e w1 ⟨b, r, rfl, hr, hP⟩; have hcl : w1.cell? ⟨b, 11, none⟩ = some (.int .i64 r.pl) := (by rw [Lib.cell_of_heap hr]; rfl); have hfz := Lib.frozen_of_heap hr 11))
  go_ret2
  exact ⟨b, w1, rfl, hP, rfl⟩
end Go.Proofs.YtnpjldffciociaaGreatDoor
