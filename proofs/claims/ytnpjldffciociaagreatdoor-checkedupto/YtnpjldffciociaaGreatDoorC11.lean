import Derived.Test.YtnpjldffciociaaGreatDoorC10
import Derived.Test.YtnpjldffciociaaGreatDoorC01
namespace Go.Proofs.YtnpjldffciociaaGreatDoor
open Go.RowKit

set_option maxRecDepth 10000 in
set_option maxHeartbeats 1000000 in
theorem pop_all (rb : Nat) (w : World) (P : World → Prop) (R : Value → Value → World → Prop)
    (hw : Calls Tryz.prog 156 #[.pointer (some ⟨rb, 0, none⟩)] w fun e w' => e = .returned (.string (bs wAll)) ∧ P w')
    (hr : ∀ w1, P w1 → Calls Tryz.prog 198 #[.pointer (some ⟨rb, 0, none⟩)] w1 fun e w' => ∃ a b, e = .returned (.tuple #[a, b]) ∧ R a b w') :
    Calls Tryz.prog 152 #[.pointer (some ⟨rb, 0, none⟩)] w fun e w' => ∃ a b, e = .returned (.tuple #[a, b]) ∧ R a b w' := by
  have hbs := bs_toList2
  go_enter Tryz.func152, Tryz.ntmps152
  go_wp2_with (first
    | (go_at_call 156; refine hw.mono ?_; rintro e w1 ⟨rfl, hP⟩)
    | (go_at_call 198; refine (hr _ hP).mono ?_; rintro e w2 ⟨a, b, rfl, hR⟩))
  go_ret2
  exact ⟨a, b, rfl, hR⟩
set_option maxRecDepth 10000 in
set_option maxHeartbeats 1000000 in
theorem pop_keep (rb : Nat) (w : World) (P : World → Prop) (R : Value → Value → World → Prop)
    (hw : Calls Tryz.prog 156 #[.pointer (some ⟨rb, 0, none⟩)] w fun e w' => e = .returned (.string (bs wKeep)) ∧ P w')
    (hr : ∀ w1, P w1 → Calls Tryz.prog 199 #[.pointer (some ⟨rb, 0, none⟩)] w1 fun e w' => ∃ a b, e = .returned (.tuple #[a, b]) ∧ R a b w') :
    Calls Tryz.prog 152 #[.pointer (some ⟨rb, 0, none⟩)] w fun e w' => ∃ a b, e = .returned (.tuple #[a, b]) ∧ R a b w' := by
  have hbs := bs_toList2
  go_enter Tryz.func152, Tryz.ntmps152
  go_wp2_with (first
    | (go_at_call 156; refine hw.mono ?_; rintro e w1 ⟨rfl, hP⟩)
    | (go_at_call 199; refine (hr _ hP).mono ?_; rintro e w2 ⟨a, b, rfl, hR⟩))
  go_ret2
  exact ⟨a, b, rfl, hR⟩
set_option maxRecDepth 10000 in
set_option maxHeartbeats 1000000 in
theorem pop_pick (rb : Nat) (w : World) (P : World → Prop) (R : Value → Value → World → Prop)
    (hw : Calls Tryz.prog 156 #[.pointer (some ⟨rb, 0, none⟩)] w fun e w' => e = .returned (.string (bs wPick)) ∧ P w')
    (hr : ∀ w1, P w1 → Calls Tryz.prog 200 #[.pointer (some ⟨rb, 0, none⟩)] w1 fun e w' => ∃ a b, e = .returned (.tuple #[a, b]) ∧ R a b w') :
    Calls Tryz.prog 152 #[.pointer (some ⟨rb, 0, none⟩)] w fun e w' => ∃ a b, e = .returned (.tuple #[a, b]) ∧ R a b w' := by
  have hbs := bs_toList2
  go_enter Tryz.func152, Tryz.ntmps152
  go_wp2_with (first
    | (go_at_call 156; refine hw.mono ?_; rintro e w1 ⟨rfl, hP⟩)
    | (go_at_call 200; refine (hr _ hP).mono ?_; rintro e w2 ⟨a, b, rfl, hR⟩))
  go_ret2
  exact ⟨a, b, rfl, hR⟩
set_option maxRecDepth 10000 in
set_option maxHeartbeats 1000000 in
theorem pop_join (rb : Nat) (w : World) (P : World → Prop) (R : Value → Value → World → Prop)
    (hw : Calls Tryz.prog 156 #[.pointer (some ⟨rb, 0, none⟩)] w fun e w' => e = .returned (.string (bs wJoin)) ∧ P w')
    (hr : ∀ w1, P w1 → Calls Tryz.prog 201 #[.pointer (some ⟨rb, 0, none⟩)] w1 fun e w' => ∃ a b, e = .returned (.tuple #[a, b]) ∧ R a b w') :
    Calls Tryz.prog 152 #[.pointer (some ⟨rb, 0, none⟩)] w fun e w' => ∃ a b, e = .returned (.tuple #[a, b]) ∧ R a b w' := by
  have hbs := bs_toList2
  go_enter Tryz.func152, Tryz.ntmps152
  go_wp2_with (first
    | (go_at_call 156; refine hw.mono ?_; rintro e w1 ⟨rfl, hP⟩)
    | (go_at_call 201; refine (hr _ hP).mono ?_; rintro e w2 ⟨a, b, rfl, hR⟩))
  go_ret2
  exact ⟨a, b, rfl, hR⟩
set_option maxRecDepth 10000 in
set_option maxHeartbeats 1000000 in
theorem pop_both (rb : Nat) (w : World) (P : World → Prop) (R : Value → Value → World → Prop)
    (hw : Calls Tryz.prog 156 #[.pointer (some ⟨rb, 0, none⟩)] w fun e w' => e = .returned (.string (bs wBoth)) ∧ P w')
    (hr : ∀ w1, P w1 → Calls Tryz.prog 202 #[.pointer (some ⟨rb, 0, none⟩)] w1 fun e w' => ∃ a b, e = .returned (.tuple #[a, b]) ∧ R a b w') :
    Calls Tryz.prog 152 #[.pointer (some ⟨rb, 0, none⟩)] w fun e w' => ∃ a b, e = .returned (.tuple #[a, b]) ∧ R a b w' := by
  have hbs := bs_toList2
  go_enter Tryz.func152, Tryz.ntmps152
  go_wp2_with (first
    | (go_at_call 156; refine hw.mono ?_; rintro e w1 ⟨rfl, hP⟩)
    | (go_at_call 202; refine (hr _ hP).mono ?_; rintro e w2 ⟨a, b, rfl, hR⟩))
  go_ret2
  exact ⟨a, b, rfl, hR⟩
set_option maxRecDepth 10000 in
set_option maxHeartbeats 1000000 in
theorem pop_count (rb : Nat) (w : World) (P : World → Prop) (R : Value → Value → World → Prop)
    (hw : Calls Tryz.prog 156 #[.pointer (some ⟨rb, 0, none⟩)] w fun e w' => e = .returned (.string (bs wCount)) ∧ P w')
    (hr : ∀ w1, P w1 → Calls Tryz.prog 203 #[.pointer (some ⟨rb, 0, none⟩)] w1 fun e w' => ∃ a b, e = .returned (.tuple #[a, b]) ∧ R a b w') :
    Calls Tryz.prog 152 #[.pointer (some ⟨rb, 0, none⟩)] w fun e w' => ∃ a b, e = .returned (.tuple #[a, b]) ∧ R a b w' := by
  have hbs := bs_toList2
  go_enter Tryz.func152, Tryz.ntmps152
  go_wp2_with (first
    | (go_at_call 156; refine hw.mono ?_; rintro e w1 ⟨rfl, hP⟩)
    | (go_at_call 203; refine (hr _ hP).mono ?_; rintro e w2 ⟨a, b, rfl, hR⟩))
  go_ret2
  exact ⟨a, b, rfl, hR⟩
set_option maxRecDepth 10000 in
set_option maxHeartbeats 1000000 in
theorem pop_sum (rb : Nat) (w : World) (P : World → Prop) (R : Value → Value → World → Prop)
    (hw : Calls Tryz.prog 156 #[.pointer (some ⟨rb, 0, none⟩)] w fun e w' => e = .returned (.string (bs wSum)) ∧ P w')
    (hr : ∀ w1, P w1 → Calls Tryz.prog 204 #[.pointer (some ⟨rb, 0, none⟩)] w1 fun e w' => ∃ a b, e = .returned (.tuple #[a, b]) ∧ R a b w') :
    Calls Tryz.prog 152 #[.pointer (some ⟨rb, 0, none⟩)] w fun e w' => ∃ a b, e = .returned (.tuple #[a, b]) ∧ R a b w' := by
  have hbs := bs_toList2
  go_enter Tryz.func152, Tryz.ntmps152
  go_wp2_with (first
    | (go_at_call 156; refine hw.mono ?_; rintro e w1 ⟨rfl, hP⟩)
    | (go_at_call 204; refine (hr _ hP).mono ?_; rintro e w2 ⟨a, b, rfl, hR⟩))
  go_ret2
  exact ⟨a, b, rfl, hR⟩
set_option maxRecDepth 10000 in
set_option maxHeartbeats 1000000 in
theorem pop_none (rb : Nat) (x : List UInt8) (w : World) (P : World → Prop) (R : Value → World → Prop) (n0 : (x == wAll) = false) (n1 : (x == wKeep) = false) (n2 : (x == wPick) = false) (n3 : (x == wJoin) = false) (n4 : (x == wBoth) = false) (n5 : (x == wCount) = false) (n6 : (x == wSum) = false)
    (hw : Calls Tryz.prog 156 #[.pointer (some ⟨rb, 0, none⟩)] w fun e w' => e = .returned (.string (bs x)) ∧ P w')
    (hr : ∀ w1 s, P w1 → Calls Tryz.prog 159 #[.pointer (some ⟨rb, 0, none⟩), .string s] w1 fun e w' => ∃ te pe, e = .returned (.iface te pe) ∧ R (.iface te pe) w') :
    Calls Tryz.prog 152 #[.pointer (some ⟨rb, 0, none⟩)] w fun e w' => ∃ te pe, e = .returned (.tuple #[.pointer none, .iface te pe]) ∧ R (.iface te pe) w' := by
  have hbs := bs_toList2
  go_enter Tryz.func152, Tryz.ntmps152
  go_wp2_with (first
    | (go_at_call 156; refine hw.mono ?_; rintro e w1 ⟨rfl, hP⟩)
    | (go_at_call 159; refine (hr _ _ hP).mono ?_; rintro e w2 ⟨te, pe, rfl, hR⟩))
  go_ret2
  exact ⟨te, pe, rfl, hR⟩
set_option maxRecDepth 10000 in
set_option maxHeartbeats 1000000 in
theorem pview_no (rb taken : Nat) (w : World) (errno : Int) (P : World → Prop)
    (hp : Calls Tryz.prog 151 #[.pointer (some ⟨rb, 0, none⟩)] w fun e w' => e = .returned (.int .i64 ((taken : Int) + 1)) ∧ w' = w)
    (ht : Calls Tryz.prog 152 #[.pointer (some ⟨rb, 0, none⟩)] w fun e w' => ∃ te pe, e = .returned (.tuple #[.pointer none, .iface te pe]) ∧ Err w' errno (.iface te pe) ∧ P w') :
    Calls Tryz.prog 99 #[.pointer (some ⟨rb, 0, none⟩)] w fun e w' => ∃ te pe w1, e = .returned (.tuple #[.pointer none, .iface te pe]) ∧ Err w' errno (.iface te pe) ∧ P w1 ∧ Below w1.heap.size w1 w' := by
  go_enter Tryz.func99, Tryz.ntmps99
  go_wp2_with (first
    | (go_at_call 151; refine hp.mono ?_; rintro e w' ⟨rfl, hw⟩; obtain rfl := hw.symm)
    | (go_at_call 152; refine ht.mono ?_; rintro e w1 ⟨te, pe, rfl, hE, hP⟩))
  go_ret2
  exact ⟨_, _, w1, rfl, hE.wrap _ _, hP, (Below.refl _ _).alloc (Nat.le_refl _) _⟩
set_option maxRecDepth 10000 in
set_option maxHeartbeats 1000000 in
theorem pview_yes (rb taken j wb wn : Nat) (w : World) (P P2 : Nat → World → Prop) (hj1 : taken < j) (hj2 : j ≤ wn) (hwn : wn ≤ 1048577)
    (hp : Calls Tryz.prog 151 #[.pointer (some ⟨rb, 0, none⟩)] w fun e w' => e = .returned (.int .i64 ((taken : Int) + 1)) ∧ w' = w)
    (ht : Calls Tryz.prog 152 #[.pointer (some ⟨rb, 0, none⟩)] w fun e w' => ∃ b n a cap, e = .returned (.tuple #[.pointer (some ⟨b, 0, none⟩), .nilIface]) ∧ w'.cell? ⟨b, 6, none⟩ = some (.slice a n cap) ∧ n ≤ 9 ∧ w'.cell? ⟨rb, 1, none⟩ = some (.slice (some ⟨wb, 0, none⟩) wn wn) ∧ w'.cell? ⟨rb, 2, none⟩ = some (.int .i64 j) ∧ P b w')
    (hd : ∀ b w1, P b w1 → P b w1.drew)
    (hwd : ∀ b w1, P b w1 → Calls Tryz.prog 102 #[.slice (some ⟨wb, taken, none⟩) (j - taken) (wn - taken), .string ⟨#[32]⟩] w1 fun e w' => ∃ S o, e = .returned (.string S) ∧ w'.cell? ⟨b, 7, none⟩ = some (.string o) ∧ w'.frozen? ⟨b, 7, none⟩ = false ∧ P2 b w') :
    Calls Tryz.prog 99 #[.pointer (some ⟨rb, 0, none⟩)] w fun e w' => ∃ b S w2, e = .returned (.tuple #[.pointer (some ⟨b, 0, none⟩), .nilIface]) ∧ P2 b w2 ∧ w' = w2.setCell ⟨b, 7, none⟩ (.string S) := by
  have b1 : (taken : Int) ≤ (j : Int) := by omega
  have b2 : (j : Int) ≤ (wn : Int) := by omega
  have b3 : IntKind.i64.wrap (taken : Int) = taken := IntWalk.i64_in _ (by omega)
  have b4 : IntKind.i64.wrap 0 = 0 := by decide
  have b6 : ¬ wn = taken := by omega
  by_cases h0 : taken = 0
  · subst h0
    simp only [Nat.sub_zero] at hwd
    go_enter Tryz.func99, Tryz.ntmps99
    go_wp2_with (first
      | (go_at_call 151; refine hp.mono ?_; rintro e w' ⟨rfl, hw⟩; obtain rfl := hw.symm)
      | (go_at_call 152; refine ht.mono ?_; rintro e w1 ⟨b, n, a, cap, rfl, k6, hn, k1, k2, hP⟩; have hn9 : ¬ ((9 : Int) < (n : Int)) := (by omega)))
    go_region_with (go_at_call 102; refine (hwd _ _ (hd _ _ hP)).mono ?_; rintro e w3 ⟨S, o, rfl, q1, q2, hP2⟩)
    all_goals go_wp2
    all_goals go_ret2
    all_goals exact ⟨b, S, w3, rfl, hP2, rfl⟩
  · go_enter Tryz.func99, Tryz.ntmps99
    go_wp2_with (first
      | (go_at_call 151; refine hp.mono ?_; rintro e w' ⟨rfl, hw⟩; obtain rfl := hw.symm)
      | (go_at_call 152; refine ht.mono ?_; rintro e w1 ⟨b, n, a, cap, rfl, k6, hn, k1, k2, hP⟩; have hn9 : ¬ ((9 : Int) < (n : Int)) := (by omega)))
    go_region_with (go_at_call 102; refine (hwd _ _ (hd _ _ hP)).mono ?_; rintro e w3 ⟨S, o, rfl, q1, q2, hP2⟩)
    all_goals go_wp2
    all_goals go_ret2
    all_goals exact ⟨b, S, w3, rfl, hP2, rfl⟩
set_option maxRecDepth 10000 in
set_option maxHeartbeats 1000000 in
theorem pview_wide (rb taken : Nat) (w : World) (errno : Int) (P : World → Prop)
    (hp : Calls Tryz.prog 151 #[.pointer (some ⟨rb, 0, none⟩)] w fun e w' => e = .returned (.int .i64 ((taken : Int) + 1)) ∧ w' = w)
    (ht : Calls Tryz.prog 152 #[.pointer (some ⟨rb, 0, none⟩)] w fun e w' => ∃ b n a cap, e = .returned (.tuple #[.pointer (some ⟨b, 0, none⟩), .nilIface]) ∧ w'.cell? ⟨b, 6, none⟩ = some (.slice a n cap) ∧ 9 < n ∧ P w')
    (hf : ∀ w1 s, P w1 → Calls Tryz.prog 98 #[.pointer (some ⟨rb, 0, none⟩), .string s] w1 fun e w' => ∃ te pe, e = .returned (.iface te pe) ∧ Err w' errno (.iface te pe) ∧ P w') :
    Calls Tryz.prog 99 #[.pointer (some ⟨rb, 0, none⟩)] w fun e w' => ∃ te pe w1, e = .returned (.tuple #[.pointer none, .iface te pe]) ∧ Err w' errno (.iface te pe) ∧ P w1 ∧ Below w1.heap.size w1 w' := by
  go_enter Tryz.func99, Tryz.ntmps99
  go_wp2_with (first
    | (go_at_call 151; refine hp.mono ?_; rintro e w' ⟨rfl, hw⟩; obtain rfl := hw.symm)
    | (go_at_call 152; refine ht.mono ?_; rintro e w1 ⟨b, n, a, cap, rfl, k6, hn, hP⟩; have hn9 : (9 : Int) < (n : Int) := (by omega))
    | (go_at_call 98; refine (hf _ _ hP).mono ?_; rintro e w2 ⟨te, pe, rfl, hE, hP2⟩))
  go_ret2
  exact ⟨_, _, w2, rfl, hE.wrap _ _, hP2, (Below.refl _ _).alloc (Nat.le_refl _) _⟩
end Go.Proofs.YtnpjldffciociaaGreatDoor
