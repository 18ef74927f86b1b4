import Derived.Test.YtiekijfmafklfaaGreatDoorProgFitA
namespace Go.Proofs.YtiekijfmafklfaaGreatDoor
open Go.RowKit

set_option maxRecDepth 10000 in
set_option maxHeartbeats 1000000 in
theorem pparts_0 (rb b : Nat) (vt : Value) (w : World) (c10 : w.cell? ⟨b, 10, none⟩ = some (.slice none 0 0)) :
    Calls Tryz.prog 115 #[.pointer (some ⟨rb, 0, none⟩), .pointer (some ⟨b, 0, none⟩), vt] w fun e w' => e = .returned .nilIface ∧ w' = w := by
  go_enter Tryz.func115, Tryz.ntmps115
  go_wp2
  refine wp_loop_rounds 1 ?_
  rw [rounds_succ]
  go_wp2
  go_ret
  exact ⟨rfl, rfl⟩
set_option maxRecDepth 10000 in
set_option maxHeartbeats 1000000 in
theorem pparts_no (rb b g n cap b1 : Nat) (hn : 0 < n) (_hn2 : n ≤ 2) (vt : Value) (w : World) (R : Value → World → Prop) (c10 : w.cell? ⟨b, 10, none⟩ = some (.slice (some ⟨g, 0, none⟩) n cap)) (cg : w.cell? ⟨g, 0, none⟩ = some (.pointer (some ⟨b1, 0, none⟩)))
    (hf : Calls Tryz.prog 100 #[.pointer (some ⟨rb, 0, none⟩), .pointer (some ⟨b1, 0, none⟩), vt] w fun e w' => ∃ te pe, e = .returned (.iface te pe) ∧ R (.iface te pe) w') :
    Calls Tryz.prog 115 #[.pointer (some ⟨rb, 0, none⟩), .pointer (some ⟨b, 0, none⟩), vt] w fun e w' => ∃ te pe, e = .returned (.iface te pe) ∧ R (.iface te pe) w' := by
  go_enter Tryz.func115, Tryz.ntmps115
  go_wp2
  refine wp_loop_rounds 1 ?_
  rw [rounds_succ]
  go_wp2_with (go_at_call 100; refine hf.mono ?_; rintro e w1 ⟨te, pe, rfl, hR⟩)
  go_ret
  exact ⟨te, pe, rfl, hR⟩
set_option maxRecDepth 10000 in
set_option maxHeartbeats 1000000 in
theorem pparts_1 (rb b g cap b1 : Nat) (vt : Value) (w : World) (P : World → Prop) (c10 : w.cell? ⟨b, 10, none⟩ = some (.slice (some ⟨g, 0, none⟩) 1 cap)) (cg : w.cell? ⟨g, 0, none⟩ = some (.pointer (some ⟨b1, 0, none⟩)))
    (hf : Calls Tryz.prog 100 #[.pointer (some ⟨rb, 0, none⟩), .pointer (some ⟨b1, 0, none⟩), vt] w fun e w' => e = .returned .nilIface ∧ P w') :
    Calls Tryz.prog 115 #[.pointer (some ⟨rb, 0, none⟩), .pointer (some ⟨b, 0, none⟩), vt] w fun e w' => e = .returned .nilIface ∧ P w' := by
  go_enter Tryz.func115, Tryz.ntmps115
  go_wp2
  refine wp_loop_rounds 2 ?_
  rw [rounds_succ]
  go_wp2_with (go_at_call 100; refine hf.mono ?_; rintro e w1 ⟨rfl, hP⟩)
  rw [rounds_succ]
  go_wp2
  go_ret
  exact ⟨rfl, hP⟩
set_option maxRecDepth 10000 in
set_option maxHeartbeats 1000000 in
theorem pparts_2 (rb b g cap b1 b2 : Nat) (vt : Value) (w : World) (P : World → Prop) (R : Ending → World → Prop) (c10 : w.cell? ⟨b, 10, none⟩ = some (.slice (some ⟨g, 0, none⟩) 2 cap)) (cg : w.cell? ⟨g, 0, none⟩ = some (.pointer (some ⟨b1, 0, none⟩)))
    (hf : Calls Tryz.prog 100 #[.pointer (some ⟨rb, 0, none⟩), .pointer (some ⟨b1, 0, none⟩), vt] w fun e w' => e = .returned .nilIface ∧ w'.cell? ⟨g, 1, none⟩ = some (.pointer (some ⟨b2, 0, none⟩)) ∧ P w')
    (hf2 : ∀ w1, P w1 → Calls Tryz.prog 100 #[.pointer (some ⟨rb, 0, none⟩), .pointer (some ⟨b2, 0, none⟩), vt] w1 fun e w' => e = .returned .nilIface ∧ R e w') :
    Calls Tryz.prog 115 #[.pointer (some ⟨rb, 0, none⟩), .pointer (some ⟨b, 0, none⟩), vt] w fun e w' => e = .returned .nilIface ∧ R e w' := by
  go_enter Tryz.func115, Tryz.ntmps115
  go_wp2
  refine wp_loop_rounds 3 ?_
  rw [rounds_succ]
  go_wp2_with (go_at_call 100; refine hf.mono ?_; rintro e w1 ⟨rfl, cg1, hP⟩)
  have h2 := hf2 _ hP
  rw [rounds_succ]
  go_wp2_with (go_at_call 100; refine h2.mono ?_; rintro e w2 ⟨rfl, hR⟩)
  rw [rounds_succ]
  go_wp2
  go_ret
  exact ⟨rfl, hR⟩
set_option maxRecDepth 10000 in
set_option maxHeartbeats 1000000 in
theorem pparts_2no (rb b g cap b1 b2 : Nat) (vt : Value) (w : World) (P : World → Prop) (R : Value → World → Prop) (c10 : w.cell? ⟨b, 10, none⟩ = some (.slice (some ⟨g, 0, none⟩) 2 cap)) (cg : w.cell? ⟨g, 0, none⟩ = some (.pointer (some ⟨b1, 0, none⟩)))
    (hf : Calls Tryz.prog 100 #[.pointer (some ⟨rb, 0, none⟩), .pointer (some ⟨b1, 0, none⟩), vt] w fun e w' => e = .returned .nilIface ∧ w'.cell? ⟨g, 1, none⟩ = some (.pointer (some ⟨b2, 0, none⟩)) ∧ P w')
    (hf2 : ∀ w1, P w1 → Calls Tryz.prog 100 #[.pointer (some ⟨rb, 0, none⟩), .pointer (some ⟨b2, 0, none⟩), vt] w1 fun e w' => ∃ te pe, e = .returned (.iface te pe) ∧ R (.iface te pe) w') :
    Calls Tryz.prog 115 #[.pointer (some ⟨rb, 0, none⟩), .pointer (some ⟨b, 0, none⟩), vt] w fun e w' => ∃ te pe, e = .returned (.iface te pe) ∧ R (.iface te pe) w' := by
  go_enter Tryz.func115, Tryz.ntmps115
  go_wp2
  refine wp_loop_rounds 2 ?_
  rw [rounds_succ]
  go_wp2_with (go_at_call 100; refine hf.mono ?_; rintro e w1 ⟨rfl, cg1, hP⟩)
  have h2 := hf2 _ hP
  rw [rounds_succ]
  go_wp2_with (go_at_call 100; refine h2.mono ?_; rintro e w2 ⟨te, pe, rfl, hR⟩)
  go_ret
  exact ⟨te, pe, rfl, hR⟩

set_option maxRecDepth 10000 in
set_option maxHeartbeats 1000000 in
theorem pfit_parts (rb b : Nat) (vt : Value) (w : World) (errno : Int) (P : World → Prop)
    (hp : Calls Tryz.prog 115 #[.pointer (some ⟨rb, 0, none⟩), .pointer (some ⟨b, 0, none⟩), vt] w fun e w' => ∃ te pe, e = .returned (.iface te pe) ∧ Err w' errno (.iface te pe) ∧ (∃ p, w'.cell? ⟨b, 11, none⟩ = some (.int .i64 p)) ∧ P w') :
    Calls Tryz.prog 100 #[.pointer (some ⟨rb, 0, none⟩), .pointer (some ⟨b, 0, none⟩), vt] w fun e w' => ∃ te pe w1, e = .returned (.iface te pe) ∧ Err w' errno (.iface te pe) ∧ P w1 ∧ Below w1.heap.size w1 w' := by
  go_enter Tryz.func100, Tryz.ntmps100
  go_wp2_with (go_at_call 115; refine hp.mono ?_; rintro e w1 ⟨te, pe, rfl, hE, ⟨p, hc⟩, hP⟩)
  go_ret
  exact ⟨_, _, w1, rfl, hE.wrap _ _, hP, (Below.refl _ _).alloc (Nat.le_refl _) _⟩
set_option maxRecDepth 10000 in
set_option maxHeartbeats 1000000 in
theorem pfit_yes (rb b : Nat) (vt : Value) (w : World) (P Q : World → Prop)
    (hp : Calls Tryz.prog 115 #[.pointer (some ⟨rb, 0, none⟩), .pointer (some ⟨b, 0, none⟩), vt] w fun e w' => e = .returned .nilIface ∧ P w')
    (hf : ∀ w1, P w1 → Calls Tryz.prog 116 #[.pointer (some ⟨rb, 0, none⟩), .pointer (some ⟨b, 0, none⟩), vt] w1 fun e w' => e = .returned (.bool true) ∧ Q w') :
    Calls Tryz.prog 100 #[.pointer (some ⟨rb, 0, none⟩), .pointer (some ⟨b, 0, none⟩), vt] w fun e w' => e = .returned .nilIface ∧ Q w' := by
  go_enter Tryz.func100, Tryz.ntmps100
  go_wp2_with (first
    | (go_at_call 115; refine hp.mono ?_; rintro e w1 ⟨rfl, hP⟩)
    | (go_at_call 116; refine (hf _ hP).mono ?_; rintro e w2 ⟨rfl, hQ⟩))
  go_ret
  exact ⟨rfl, hQ⟩
set_option maxRecDepth 10000 in
set_option maxHeartbeats 1000000 in
theorem pfit_no (rb b : Nat) (vt : Value) (w : World) (errno : Int) (P Q : World → Prop)
    (hp : Calls Tryz.prog 115 #[.pointer (some ⟨rb, 0, none⟩), .pointer (some ⟨b, 0, none⟩), vt] w fun e w' => e = .returned .nilIface ∧ P w')
    (hf : ∀ w1, P w1 → Calls Tryz.prog 116 #[.pointer (some ⟨rb, 0, none⟩), .pointer (some ⟨b, 0, none⟩), vt] w1 fun e w' => e = .returned (.bool false) ∧ Q w')
    (hfl : ∀ w1 s, Q w1 → Calls Tryz.prog 27 #[.pointer (some ⟨rb, 0, none⟩), .string s] w1 fun e w' => ∃ te pe, e = .returned (.iface te pe) ∧ Err w' errno (.iface te pe) ∧ (∃ p, w'.cell? ⟨b, 11, none⟩ = some (.int .i64 p)) ∧ Q w') :
    Calls Tryz.prog 100 #[.pointer (some ⟨rb, 0, none⟩), .pointer (some ⟨b, 0, none⟩), vt] w fun e w' => ∃ te pe w1, e = .returned (.iface te pe) ∧ Err w' errno (.iface te pe) ∧ Q w1 ∧ Below w1.heap.size w1 w' := by
  go_enter Tryz.func100, Tryz.ntmps100
  go_wp2_with (first
    | (go_at_call 115; refine hp.mono ?_; rintro e w1 ⟨rfl, hP⟩)
    | (go_at_call 116; refine (hf _ hP).mono ?_; rintro e w2 ⟨rfl, hQ⟩)
    | (go_at_call 27; refine (hfl _ _ hQ).mono ?_; rintro e w3 ⟨te, pe, rfl, hE, ⟨p, hc⟩, hQ3⟩))
  go_ret
  exact ⟨_, _, w3, rfl, hE.wrap _ _, hQ3, (Below.refl _ _).alloc (Nat.le_refl _) _⟩
end Go.Proofs.YtiekijfmafklfaaGreatDoor
