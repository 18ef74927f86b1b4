import Derived.Test.YtdnfhaojfdohdaaGreatDoorC10
import Derived.Test.YtdnfhaojfdohdaaGreatDoorC01
namespace Go.Proofs.YtdnfhaojfdohdaaGreatDoor
open Go.RowKit

set_option maxRecDepth 10000 in
set_option maxHeartbeats 1000000 in
theorem pop_all (rb : Nat) (w : World) (P : World → Prop) (R : Value → Value → World → Prop)
    (hw : Calls Tryz.prog 151 #[.pointer (some ⟨rb, 0, none⟩)] w fun e w' => e = .returned (.string (bs wAll)) ∧ P w')
    (hr : ∀ w1, P w1 → Calls Tryz.prog 190 #[.pointer (some ⟨rb, 0, none⟩)] w1 fun e w' => ∃ a b, e = .returned (.tuple #[a, b]) ∧ R a b w') :
    Calls Tryz.prog 147 #[.pointer (some ⟨rb, 0, none⟩)] w fun e w' => ∃ a b, e = .returned (.tuple #[a, b]) ∧ R a b w' := by
  have hbs := bs_toList2
  go_enter Tryz.func147, Tryz.ntmps147
  go_wp2_with (first
    | (go_at_call 151; refine hw.mono ?_; rintro e w1 ⟨rfl, hP⟩)
    | (go_at_call 190; refine (hr _ hP).mono ?_; rintro e w2 ⟨a, b, rfl, hR⟩))
  go_ret2
  exact ⟨a, b, rfl, hR⟩
set_option maxRecDepth 10000 in
set_option maxHeartbeats 1000000 in
theorem pop_keep (rb : Nat) (w : World) (P : World → Prop) (R : Value → Value → World → Prop)
    (hw : Calls Tryz.prog 151 #[.pointer (some ⟨rb, 0, none⟩)] w fun e w' => e = .returned (.string (bs wKeep)) ∧ P w')
    (hr : ∀ w1, P w1 → Calls Tryz.prog 191 #[.pointer (some ⟨rb, 0, none⟩)] w1 fun e w' => ∃ a b, e = .returned (.tuple #[a, b]) ∧ R a b w') :
    Calls Tryz.prog 147 #[.pointer (some ⟨rb, 0, none⟩)] w fun e w' => ∃ a b, e = .returned (.tuple #[a, b]) ∧ R a b w' := by
  have hbs := bs_toList2
  go_enter Tryz.func147, Tryz.ntmps147
  go_wp2_with (first
    | (go_at_call 151; refine hw.mono ?_; rintro e w1 ⟨rfl, hP⟩)
    | (go_at_call 191; refine (hr _ hP).mono ?_; rintro e w2 ⟨a, b, rfl, hR⟩))
  go_ret2
  exact ⟨a, b, rfl, hR⟩
set_option maxRecDepth 10000 in
set_option maxHeartbeats 1000000 in
theorem pop_pick (rb : Nat) (w : World) (P : World → Prop) (R : Value → Value → World → Prop)
    (hw : Calls Tryz.prog 151 #[.pointer (some ⟨rb, 0, none⟩)] w fun e w' => e = .returned (.string (bs wPick)) ∧ P w')
    (hr : ∀ w1, P w1 → Calls Tryz.prog 192 #[.pointer (some ⟨rb, 0, none⟩)] w1 fun e w' => ∃ a b, e = .returned (.tuple #[a, b]) ∧ R a b w') :
    Calls Tryz.prog 147 #[.pointer (some ⟨rb, 0, none⟩)] w fun e w' => ∃ a b, e = .returned (.tuple #[a, b]) ∧ R a b w' := by
  have hbs := bs_toList2
  go_enter Tryz.func147, Tryz.ntmps147
  go_wp2_with (first
    | (go_at_call 151; refine hw.mono ?_; rintro e w1 ⟨rfl, hP⟩)
    | (go_at_call 192; refine (hr _ hP).mono ?_; rintro e w2 ⟨a, b, rfl, hR⟩))
  go_ret2
  exact ⟨a, b, rfl, hR⟩
set_option maxRecDepth 10000 in
set_option maxHeartbeats 1000000 in
theorem pop_join (rb : Nat) (w : World) (P : World → Prop) (R : Value → Value → World → Prop)
    (hw : Calls Tryz.prog 151 #[.pointer (some ⟨rb, 0, none⟩)] w fun e w' => e = .returned (.string (bs wJoin)) ∧ P w')
    (hr : ∀ w1, P w1 → Calls Tryz.prog 193 #[.pointer (some ⟨rb, 0, none⟩)] w1 fun e w' => ∃ a b, e = .returned (.tuple #[a, b]) ∧ R a b w') :
    Calls Tryz.prog 147 #[.pointer (some ⟨rb, 0, none⟩)] w fun e w' => ∃ a b, e = .returned (.tuple #[a, b]) ∧ R a b w' := by
  have hbs := bs_toList2
  go_enter Tryz.func147, Tryz.ntmps147
  go_wp2_with (first
    | (go_at_call 151; refine hw.mono ?_; rintro e w1 ⟨rfl, hP⟩)
    | (go_at_call 193; refine (hr _ hP).mono ?_; rintro e w2 ⟨a, b, rfl, hR⟩))
  go_ret2
  exact ⟨a, b, rfl, hR⟩
set_option maxRecDepth 10000 in
set_option maxHeartbeats 1000000 in
theorem pop_both (rb : Nat) (w : World) (P : World → Prop) (R : Value → Value → World → Prop)
    (hw : Calls Tryz.prog 151 #[.pointer (some ⟨rb, 0, none⟩)] w fun e w' => e = .returned (.string (bs wBoth)) ∧ P w')
    (hr : ∀ w1, P w1 → Calls Tryz.prog 194 #[.pointer (some ⟨rb, 0, none⟩)] w1 fun e w' => ∃ a b, e = .returned (.tuple #[a, b]) ∧ R a b w') :
    Calls Tryz.prog 147 #[.pointer (some ⟨rb, 0, none⟩)] w fun e w' => ∃ a b, e = .returned (.tuple #[a, b]) ∧ R a b w' := by
  have hbs := bs_toList2
  go_enter Tryz.func147, Tryz.ntmps147
  go_wp2_with (first
    | (go_at_call 151; refine hw.mono ?_; rintro e w1 ⟨rfl, hP⟩)
    | (go_at_call 194; refine (hr _ hP).mono ?_; rintro e w2 ⟨a, b, rfl, hR⟩))
  go_ret2
  exact ⟨a, b, rfl, hR⟩
set_option maxRecDepth 10000 in
set_option maxHeartbeats 1000000 in
theorem pop_count (rb : Nat) (w : World) (P : World → Prop) (R : Value → Value → World → Prop)
    (hw : Calls Tryz.prog 151 #[.pointer (some ⟨rb, 0, none⟩)] w fun e w' => e = .returned (.string (bs wCount)) ∧ P w')
    (hr : ∀ w1, P w1 → Calls Tryz.prog 195 #[.pointer (some ⟨rb, 0, none⟩)] w1 fun e w' => ∃ a b, e = .returned (.tuple #[a, b]) ∧ R a b w') :
    Calls Tryz.prog 147 #[.pointer (some ⟨rb, 0, none⟩)] w fun e w' => ∃ a b, e = .returned (.tuple #[a, b]) ∧ R a b w' := by
  have hbs := bs_toList2
  go_enter Tryz.func147, Tryz.ntmps147
  go_wp2_with (first
    | (go_at_call 151; refine hw.mono ?_; rintro e w1 ⟨rfl, hP⟩)
    | (go_at_call 195; refine (hr _ hP).mono ?_; rintro e w2 ⟨a, b, rfl, hR⟩))
  go_ret2
  exact ⟨a, b, rfl, hR⟩
set_option maxRecDepth 10000 in
set_option maxHeartbeats 1000000 in
theorem pop_sum (rb : Nat) (w : World) (P : World → Prop) (R : Value → Value → World → Prop)
    (hw : Calls Tryz.prog 151 #[.pointer (some ⟨rb, 0, none⟩)] w fun e w' => e = .returned (.string (bs wSum)) ∧ P w')
    (hr : ∀ w1, P w1 → Calls Tryz.prog 196 #[.pointer (some ⟨rb, 0, none⟩)] w1 fun e w' => ∃ a b, e = .returned (.tuple #[a, b]) ∧ R a b w') :
    Calls Tryz.prog 147 #[.pointer (some ⟨rb, 0, none⟩)] w fun e w' => ∃ a b, e = .returned (.tuple #[a, b]) ∧ R a b w' := by
  have hbs := bs_toList2
  go_enter Tryz.func147, Tryz.ntmps147
  go_wp2_with (first
    | (go_at_call 151; refine hw.mono ?_; rintro e w1 ⟨rfl, hP⟩)
    | (go_at_call 196; refine (hr _ hP).mono ?_; rintro e w2 ⟨a, b, rfl, hR⟩))
  go_ret2
  exact ⟨a, b, rfl, hR⟩
set_option maxRecDepth 10000 in
set_option maxHeartbeats 1000000 in
theorem pop_none (rb : Nat) (x : List UInt8) (w : World) (P : World → Prop) (R : Value → World → Prop) (n0 : (x == wAll) = false) (n1 : (x == wKeep) = false) (n2 : (x == wPick) = false) (n3 : (x == wJoin) = false) (n4 : (x == wBoth) = false) (n5 : (x == wCount) = false) (n6 : (x == wSum) = false)
    (hw : Calls Tryz.prog 151 #[.pointer (some ⟨rb, 0, none⟩)] w fun e w' => e = .returned (.string (bs x)) ∧ P w')
    (hr : ∀ w1 s, P w1 → Calls Tryz.prog 154 #[.pointer (some ⟨rb, 0, none⟩), .string s] w1 fun e w' => ∃ te pe, e = .returned (.iface te pe) ∧ R (.iface te pe) w') :
    Calls Tryz.prog 147 #[.pointer (some ⟨rb, 0, none⟩)] w fun e w' => ∃ te pe, e = .returned (.tuple #[.pointer none, .iface te pe]) ∧ R (.iface te pe) w' := by
  have hbs := bs_toList2
  go_enter Tryz.func147, Tryz.ntmps147
  go_wp2_with (first
    | (go_at_call 151; refine hw.mono ?_; rintro e w1 ⟨rfl, hP⟩)
    | (go_at_call 154; refine (hr _ _ hP).mono ?_; rintro e w2 ⟨te, pe, rfl, hR⟩))
  go_ret2
  exact ⟨te, pe, rfl, hR⟩
set_option maxRecDepth 10000 in
set_option maxHeartbeats 1000000 in
theorem pview_no (rb taken : Nat) (w : World) (errno : Int) (P : World → Prop)
    (hp : Calls Tryz.prog 146 #[.pointer (some ⟨rb, 0, none⟩)] w fun e w' => e = .returned (.int .i64 ((taken : Int) + 1)) ∧ w' = w)
    (ht : Calls Tryz.prog 147 #[.pointer (some ⟨rb, 0, none⟩)] w fun e w' => ∃ te pe, e = .returned (.tuple #[.pointer none, .iface te pe]) ∧ Err w' errno (.iface te pe) ∧ P w') :
    Calls Tryz.prog 94 #[.pointer (some ⟨rb, 0, none⟩)] w fun e w' => ∃ te pe w1, e = .returned (.tuple #[.pointer none, .iface te pe]) ∧ Err w' errno (.iface te pe) ∧ P w1 ∧ Below w1.heap.size w1 w' := by
  go_enter Tryz.func94, Tryz.ntmps94
  go_wp2_with (first
    | (go_at_call 146; refine hp.mono ?_; rintro e w' ⟨rfl, hw⟩; obtain rfl := hw.symm)
    | (go_at_call 147; refine ht.mono ?_; rintro e w1 ⟨te, pe, rfl, hE, hP⟩))
  go_ret2
  exact ⟨_, _, w1, rfl, hE.wrap _ _, hP, (Below.refl _ _).alloc (Nat.le_refl _) _⟩
set_option maxRecDepth 10000 in
set_option maxHeartbeats 1000000 in
theorem pview_yes (rb taken : Nat) (w : World) (P : Nat → World → Prop)
    (hp : Calls Tryz.prog 146 #[.pointer (some ⟨rb, 0, none⟩)] w fun e w' => e = .returned (.int .i64 ((taken : Int) + 1)) ∧ w' = w)
    (ht : Calls Tryz.prog 147 #[.pointer (some ⟨rb, 0, none⟩)] w fun e w' => ∃ b n a cap, e = .returned (.tuple #[.pointer (some ⟨b, 0, none⟩), .nilIface]) ∧ w'.cell? ⟨b, 6, none⟩ = some (.slice a n cap) ∧ n ≤ 9 ∧ P b w') :
    Calls Tryz.prog 94 #[.pointer (some ⟨rb, 0, none⟩)] w fun e w' => ∃ b, e = .returned (.tuple #[.pointer (some ⟨b, 0, none⟩), .nilIface]) ∧ P b w' := by
  go_enter Tryz.func94, Tryz.ntmps94
  go_wp2_with (first
    | (go_at_call 146; refine hp.mono ?_; rintro e w' ⟨rfl, hw⟩; obtain rfl := hw.symm)
    | (go_at_call 147; refine ht.mono ?_; rintro e w1 ⟨b, n, a, cap, rfl, k6, hn, hP⟩; have hn9 : ¬ ((9 : Int) < (n : Int)) := (by omega)))
  go_ret2
  exact ⟨b, rfl, hP⟩
set_option maxRecDepth 10000 in
set_option maxHeartbeats 1000000 in
theorem pview_wide (rb taken : Nat) (w : World) (errno : Int) (P : World → Prop)
    (hp : Calls Tryz.prog 146 #[.pointer (some ⟨rb, 0, none⟩)] w fun e w' => e = .returned (.int .i64 ((taken : Int) + 1)) ∧ w' = w)
    (ht : Calls Tryz.prog 147 #[.pointer (some ⟨rb, 0, none⟩)] w fun e w' => ∃ b n a cap, e = .returned (.tuple #[.pointer (some ⟨b, 0, none⟩), .nilIface]) ∧ w'.cell? ⟨b, 6, none⟩ = some (.slice a n cap) ∧ 9 < n ∧ P w')
    (hf : ∀ w1 s, P w1 → Calls Tryz.prog 93 #[.pointer (some ⟨rb, 0, none⟩), .string s] w1 fun e w' => ∃ te pe, e = .returned (.iface te pe) ∧ Err w' errno (.iface te pe) ∧ P w') :
    Calls Tryz.prog 94 #[.pointer (some ⟨rb, 0, none⟩)] w fun e w' => ∃ te pe w1, e = .returned (.tuple #[.pointer none, .iface te pe]) ∧ Err w' errno (.iface te pe) ∧ P w1 ∧ Below w1.heap.size w1 w' := by
  go_enter Tryz.func94, Tryz.ntmps94
  go_wp2_with (first
    | (go_at_call 146; refine hp.mono ?_; rintro e w' ⟨rfl, hw⟩; obtain rfl := hw.symm)
    | (go_at_call 147; refine ht.mono ?_; rintro e w1 ⟨b, n, a, cap, rfl, k6, hn, hP⟩; have hn9 : (9 : Int) < (n : Int) := (by omega))
    | (go_at_call 93; refine (hf _ _ hP).mono ?_; rintro e w2 ⟨te, pe, rfl, hE, hP2⟩))
  go_ret2
  exact ⟨_, _, w2, rfl, hE.wrap _ _, hP2, (Below.refl _ _).alloc (Nat.le_refl _) _⟩
end Go.Proofs.YtdnfhaojfdohdaaGreatDoor
