import Derived.Test.YtnpjldffciociaaGreatDoorC13
import Derived.Test.YtnpjldffciociaaGreatDoorC12
import Derived.Deep.RegionLaw
import Derived.Deep.AppendLies
namespace Go.Proofs.YtnpjldffciociaaGreatDoor
open Go.RowKit

set_option maxRecDepth 10000 in
set_option maxHeartbeats 1000000 in
theorem ppick_no (rb : Nat) (w : World) (R : Value → World → Prop)
    (h1 : Calls Tryz.prog 245 #[.pointer (some ⟨rb, 0, none⟩)] w fun e w' => ∃ te pe, e = .returned (.tuple #[.slice none 0 0, .pointer none, .slice none 0 0, .iface te pe]) ∧ R (.iface te pe) w') :
    Calls Tryz.prog 200 #[.pointer (some ⟨rb, 0, none⟩)] w fun e w' => ∃ te pe, e = .returned (.tuple #[.pointer none, .iface te pe]) ∧ R (.iface te pe) w' := by
  go_enter Tryz.func200, Tryz.ntmps200
  go_wp2_with (go_at_call 245; refine h1.mono ?_; rintro e w1 ⟨te, pe, rfl, hR⟩)
  go_ret2
  exact ⟨te, pe, rfl, hR⟩
set_option maxRecDepth 10000 in
set_option maxHeartbeats 1000000 in
theorem pcount_no (rb : Nat) (w : World) (R : Value → World → Prop)
    (h1 : Calls Tryz.prog 245 #[.pointer (some ⟨rb, 0, none⟩)] w fun e w' => ∃ te pe, e = .returned (.tuple #[.slice none 0 0, .pointer none, .slice none 0 0, .iface te pe]) ∧ R (.iface te pe) w') :
    Calls Tryz.prog 203 #[.pointer (some ⟨rb, 0, none⟩)] w fun e w' => ∃ te pe, e = .returned (.tuple #[.pointer none, .iface te pe]) ∧ R (.iface te pe) w' := by
  go_enter Tryz.func203, Tryz.ntmps203
  go_wp2_with (go_at_call 245; refine h1.mono ?_; rintro e w1 ⟨te, pe, rfl, hR⟩)
  go_ret2
  exact ⟨te, pe, rfl, hR⟩
set_option maxRecDepth 10000 in
set_option maxHeartbeats 1000000 in
theorem ppick_yes (rb : Nat) (w : World) (P : Value → World → Prop)
    (h1 : Calls Tryz.prog 245 #[.pointer (some ⟨rb, 0, none⟩)] w fun e w' => ∃ ua un uc b ta tn tc, e = .returned (.tuple #[.slice ua un uc, .pointer (some ⟨b, 0, none⟩), .slice ta tn tc, .nilIface]) ∧ P (.slice ta tn tc) w') :
    Calls Tryz.prog 200 #[.pointer (some ⟨rb, 0, none⟩)] w fun e w' => ∃ tv w3, P tv w3 ∧ NewVw w3 tv e w' := by
  go_enter Tryz.func200, Tryz.ntmps200
  go_wp2_with (go_at_call 245; refine h1.mono ?_; rintro e w1 ⟨ua, un, uc, b, ta, tn, tc, rfl, hP⟩)
  go_ret2
  exact ⟨_, w1, hP, NewVw.after ((Below.refl _ _).alloc (Nat.le_refl _) _) (newVw1 _ _ _ _ _ _ _ _ _ (by simp))⟩
set_option maxRecDepth 10000 in
set_option maxHeartbeats 1000000 in
theorem pcount_yes (rb lo : Nat) (w : World) (xs : List Value) (n : Nat) (hn : n ≤ 1048577) (P : World → Prop)
    (h1 : Calls Tryz.prog 245 #[.pointer (some ⟨rb, 0, none⟩)] w fun e w' => ∃ ua un uc b tv base, e = .returned (.tuple #[.slice ua un uc, .pointer (some ⟨b, 0, none⟩), tv, .nilIface]) ∧ w'.ownsRow base 185 1 tv n xs ∧ lo ≤ base ∧ base ≤ w'.heap.size ∧ P w') :
    Calls Tryz.prog 203 #[.pointer (some ⟨rb, 0, none⟩)] w fun e w' => ∃ tv w2 w3 base, P w2 ∧ lo ≤ base ∧ base ≤ w2.heap.size ∧ Below base w2 w3 ∧ w3.ownsRow base 185 1 tv (n + 1) (xs ++ [.int .i64 1]) ∧ NewVw w3 tv e w' := by
  obtain ⟨i0, hi0, hz0, hz1, hz2⟩ := info_parts Tryz.infoType
  go_enter Tryz.func203, Tryz.ntmps203
  go_wp2_with (first
    | (go_at_call 245; refine h1.mono ?_; rintro e w1 ⟨ua, un, uc, b, tv, base, rfl, hown, hrb, hbs, hP⟩)
    | (at_builtin; refine append_one rfl _ _ 111 rfl base 185 i0 (.int .i64 0) 8 Tryz.underlying111 hi0 hz0 hz1 hz2 rfl _ _ _ rfl (hown.alloc _) (.int .i64 1) (by simp [Act.eval]) rfl (by unfold maxLen; omega) (by omega) (by simp; omega) ?_; intro v' w3 hown' hb1 _; obtain ⟨ta, tc, rfl, _⟩ := row_slice hown'))
  go_ret2
  exact ⟨_, w1, w3, base, hP, hrb, hbs, ((Below.refl base w1).alloc hbs _).trans hb1, hown', newVw1 _ _ _ _ _ _ _ _ _ rfl⟩

set_option maxRecDepth 10000 in
set_option maxHeartbeats 1000000 in
theorem psum_col (rb : Nat) (w : World) (R : Value → World → Prop)
    (h1 : Calls Tryz.prog 210 #[.pointer (some ⟨rb, 0, none⟩)] w fun e w' => ∃ te pe, e = .returned (.tuple #[.int .i64 0, .iface te pe]) ∧ R (.iface te pe) w') :
    Calls Tryz.prog 204 #[.pointer (some ⟨rb, 0, none⟩)] w fun e w' => ∃ te pe, e = .returned (.tuple #[.pointer none, .iface te pe]) ∧ R (.iface te pe) w' := by
  go_enter Tryz.func204, Tryz.ntmps204
  go_wp2_with (go_at_call 210; refine h1.mono ?_; rintro e w1 ⟨te, pe, rfl, hR⟩)
  go_ret2
  exact ⟨te, pe, rfl, hR⟩
set_option maxRecDepth 10000 in
set_option maxHeartbeats 1000000 in
theorem psum_over (rb c : Nat) (w : World) (P : World → Prop) (R : Value → World → Prop)
    (h1 : Calls Tryz.prog 210 #[.pointer (some ⟨rb, 0, none⟩)] w fun e w' => e = .returned (.tuple #[.int .i64 c, .nilIface]) ∧ P w')
    (h2 : ∀ w1, P w1 → Calls Tryz.prog 245 #[.pointer (some ⟨rb, 0, none⟩)] w1 fun e w' => ∃ te pe, e = .returned (.tuple #[.slice none 0 0, .pointer none, .slice none 0 0, .iface te pe]) ∧ R (.iface te pe) w') :
    Calls Tryz.prog 204 #[.pointer (some ⟨rb, 0, none⟩)] w fun e w' => ∃ te pe, e = .returned (.tuple #[.pointer none, .iface te pe]) ∧ R (.iface te pe) w' := by
  go_enter Tryz.func204, Tryz.ntmps204
  go_wp2_with (first
    | (go_at_call 210; refine h1.mono ?_; rintro e w1 ⟨rfl, hP⟩)
    | (go_at_call 245; refine (h2 _ hP).mono ?_; rintro e w2 ⟨te, pe, rfl, hR⟩))
  go_ret2
  exact ⟨te, pe, rfl, hR⟩
set_option maxRecDepth 10000 in
set_option maxHeartbeats 1000000 in
theorem psum_type (rb c : Nat) (t : Int) (ht : (t != 1) = true) (w : World) (P P2 : World → Prop) (R : Value → World → Prop)
    (h1 : Calls Tryz.prog 210 #[.pointer (some ⟨rb, 0, none⟩)] w fun e w' => e = .returned (.tuple #[.int .i64 c, .nilIface]) ∧ P w')
    (h2 : ∀ w1, P w1 → Calls Tryz.prog 245 #[.pointer (some ⟨rb, 0, none⟩)] w1 fun e w' => ∃ ua un uc b ta tn tc va vn vc, e = .returned (.tuple #[.slice ua un uc, .pointer (some ⟨b, 0, none⟩), .slice ta tn tc, .nilIface]) ∧ w'.cell? ⟨b, 6, none⟩ = some (.slice va vn vc) ∧ (Calls Tryz.prog 212 #[.slice va vn vc, .int .i64 c] w' fun e w2 => e = .returned (.int .i64 t) ∧ w2 = w') ∧ P2 w')
    (h3 : ∀ w1 s, P2 w1 → Calls Tryz.prog 98 #[.pointer (some ⟨rb, 0, none⟩), .string s] w1 fun e w' => ∃ te pe, e = .returned (.iface te pe) ∧ R (.iface te pe) w') :
    Calls Tryz.prog 204 #[.pointer (some ⟨rb, 0, none⟩)] w fun e w' => ∃ te pe, e = .returned (.tuple #[.pointer none, .iface te pe]) ∧ R (.iface te pe) w' := by
  go_enter Tryz.func204, Tryz.ntmps204
  go_wp2_with (first
    | (go_at_call 210; refine h1.mono ?_; rintro e w1 ⟨rfl, hP⟩)
    | (go_at_call 245; refine (h2 _ hP).mono ?_; rintro e w2 ⟨ua, un, uc, b, ta, tn, tc, va, vn, vc, rfl, k6, hT, hP2⟩)
    | (go_at_call 212; refine hT.mono ?_; rintro e w' ⟨rfl, hw⟩; obtain rfl := hw.symm)
    | (go_at_call 98; refine (h3 _ _ hP2).mono ?_; rintro e w3 ⟨te, pe, rfl, hR⟩))
  go_ret2
  exact ⟨te, pe, rfl, hR⟩
set_option maxRecDepth 10000 in
set_option maxHeartbeats 1000000 in
theorem psum_yes (rb c lo : Nat) (w : World) (xs : List Value) (n : Nat) (hn : n ≤ 1048577) (P P2 : World → Prop)
    (h1 : Calls Tryz.prog 210 #[.pointer (some ⟨rb, 0, none⟩)] w fun e w' => e = .returned (.tuple #[.int .i64 c, .nilIface]) ∧ P w')
    (h2 : ∀ w1, P w1 → Calls Tryz.prog 245 #[.pointer (some ⟨rb, 0, none⟩)] w1 fun e w' => ∃ ua un uc b tv base va vn vc, e = .returned (.tuple #[.slice ua un uc, .pointer (some ⟨b, 0, none⟩), tv, .nilIface]) ∧ w'.cell? ⟨b, 6, none⟩ = some (.slice va vn vc) ∧ (Calls Tryz.prog 212 #[.slice va vn vc, .int .i64 c] w' fun e w2 => e = .returned (.int .i64 1) ∧ w2 = w') ∧ w'.ownsRow base 185 1 tv n xs ∧ lo ≤ base ∧ base ≤ w'.heap.size ∧ P2 w') :
    Calls Tryz.prog 204 #[.pointer (some ⟨rb, 0, none⟩)] w fun e w' => ∃ tv w2 w3 base, P2 w2 ∧ lo ≤ base ∧ base ≤ w2.heap.size ∧ Below base w2 w3 ∧ w3.ownsRow base 185 1 tv (n + 1) (xs ++ [.int .i64 1]) ∧ NewVw w3 tv e w' := by
  obtain ⟨i0, hi0, hz0, hz1, hz2⟩ := info_parts Tryz.infoType
  go_enter Tryz.func204, Tryz.ntmps204
  go_wp2_with (first
    | (go_at_call 210; refine h1.mono ?_; rintro e w1 ⟨rfl, hP⟩)
    | (go_at_call 245; refine (h2 _ hP).mono ?_; rintro e w2 ⟨ua, un, uc, b, tv, base, va, vn, vc, rfl, k6, hT, hown, hrb, hbs, hP2⟩)
    | (go_at_call 212; refine hT.mono ?_; rintro e w' ⟨rfl, hw⟩; obtain rfl := hw.symm)
    | (at_builtin; refine append_one rfl _ _ 111 rfl base 185 i0 (.int .i64 0) 8 Tryz.underlying111 hi0 hz0 hz1 hz2 rfl _ _ _ rfl (hown.alloc _) (.int .i64 1) (by simp [Act.eval]) rfl (by unfold maxLen; omega) (by omega) (by simp; omega) ?_; intro v' w3 hown' hb1 _; obtain ⟨ta, tc, rfl, _⟩ := row_slice hown'))
  go_ret2
  exact ⟨_, w2, w3, base, hP2, hrb, hbs, ((Below.refl base w2).alloc hbs _).trans hb1, hown', newVw1 _ _ _ _ _ _ _ _ _ rfl⟩
end Go.Proofs.YtnpjldffciociaaGreatDoor
