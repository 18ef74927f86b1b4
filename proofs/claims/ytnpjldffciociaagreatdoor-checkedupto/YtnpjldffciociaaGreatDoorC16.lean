import Derived.Test.YtnpjldffciociaaGreatDoorC15
namespace Go.Proofs.YtnpjldffciociaaGreatDoor
open Go.RowKit

set_option maxRecDepth 10000 in
set_option maxHeartbeats 2000000 in
theorem pjoin_yes (rb c d : Nat) (w : World) (P : World → Prop) (P1 : Nat → Nat → Value → Value → World → Prop) (P3 : Value → World → Prop) (hd : ∀ b1 b2 t1 t2 w1, P1 b1 b2 t1 t2 w1 → P1 b1 b2 t1 t2 w1.drew)
    (h1 : Calls Tryz.prog 246 #[.pointer (some ⟨rb, 0, none⟩)] w fun e w' => e = .returned (.tuple #[.int .i64 c, .int .i64 d, .nilIface]) ∧ P w')
    (h2 : ∀ w1, P w1 → Calls Tryz.prog 247 #[.pointer (some ⟨rb, 0, none⟩)] w1 fun e w' => ∃ b1 b2 ta1 tn1 tc1 ta2 tn2 tc2, e = .returned (.tuple #[.pointer (some ⟨b1, 0, none⟩), .pointer (some ⟨b2, 0, none⟩), .nilIface]) ∧ w'.cell? ⟨b1, 6, none⟩ = some (.slice ta1 tn1 tc1) ∧ w'.cell? ⟨b2, 6, none⟩ = some (.slice ta2 tn2 tc2) ∧ P1 b1 b2 (.slice ta1 tn1 tc1) (.slice ta2 tn2 tc2) w')
    (h3 : ∀ b1 b2 t1 t2 w1, P1 b1 b2 t1 t2 w1 → Calls Tryz.prog 248 #[t1, .int .i64 c, t2, .int .i64 d] w1 fun e w' => e = .returned (.bool true) ∧ w' = w1)
    (h4 : ∀ b1 b2 t1 t2 w1 w2 g, P1 b1 b2 t1 t2 w1 → Below w1.heap.size w1 w2 → w2.cell? ⟨g, 0, none⟩ = some t1 → w2.cell? ⟨g, 1, none⟩ = some t2 → g < w2.heap.size → Calls Tryz.prog 249 #[.slice (some ⟨g, 0, none⟩) 2 2] w2 fun e w' => ∃ ta tn tc, e = .returned (.slice ta tn tc) ∧ P3 (.slice ta tn tc) w') :
    Calls Tryz.prog 201 #[.pointer (some ⟨rb, 0, none⟩)] w fun e w' => ∃ tv w3, P3 tv w3 ∧ NewVw w3 tv e w' := by
  go_enter Tryz.func201, Tryz.ntmps201
  go_wp2_with (first
    | (go_at_call 246; refine h1.mono ?_; rintro e w1 ⟨rfl, hP⟩)
    | (go_at_call 247; refine (h2 _ hP).mono ?_; rintro e w2 ⟨b1, b2, ta1, tn1, tc1, ta2, tn2, tc2, rfl, k1, k2, hP1⟩))
  have hP1' := hd _ _ _ _ _ hP1
  have hP1'' := hd _ _ _ _ _ hP1'
  go_region_with (go_at_call 248; refine (h3 _ _ _ _ _ hP1').mono ?_; rintro e w3 ⟨rfl, hw⟩; obtain rfl := hw.symm)
  all_goals go_wp2
  all_goals go_region_with (go_at_call 249; refine (h4 _ _ _ _ _ _ _ hP1' ?b ?c0 ?c1 ?lt).mono ?_; (case b => exact ((Below.refl _ _).drew).alloc (by simp) _); (case c0 => simp); (case c1 => simp); (case lt => simp); rintro e w4 ⟨ta, tn, tc, rfl, hP3⟩)
  all_goals go_wp2
  all_goals go_ret2
  all_goals exact ⟨_, w4, hP3, NewVw.after (((Below.refl _ _).alloc (Nat.le_refl _) _).alloc (by simp) _) (newVw1 _ _ _ _ _ _ _ _ _ (by simp))⟩
end Go.Proofs.YtnpjldffciociaaGreatDoor
