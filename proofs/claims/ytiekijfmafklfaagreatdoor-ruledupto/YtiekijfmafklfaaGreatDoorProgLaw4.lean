import Derived.Test.YtiekijfmafklfaaGreatDoorProgLaw3
import Derived.Deep.RegionWith
namespace Go.Proofs.YtiekijfmafklfaaGreatDoor
open Go.RowKit

set_option maxRecDepth 10000 in
set_option maxHeartbeats 1000000 in
theorem pmask_table (rb lb : Nat) (w : World) (R : Value → World → Prop)
    (h1 : Calls Tryz.prog 86 #[.pointer (some ⟨rb, 0, none⟩)] w fun e w' => ∃ te pe, e = .returned (.tuple #[.int .i64 0, .iface te pe]) ∧ R (.iface te pe) w') :
    Calls Tryz.prog 59 #[.pointer (some ⟨rb, 0, none⟩), .pointer (some ⟨lb, 0, none⟩)] w fun e w' => ∃ te pe, e = .returned (.iface te pe) ∧ R (.iface te pe) w' := by
  go_enter Tryz.func59, Tryz.ntmps59
  go_wp2_with (go_at_call 86; refine h1.mono ?_; rintro e w1 ⟨te, pe, rfl, hR⟩)
  go_ret
  exact ⟨te, pe, rfl, hR⟩
set_option maxRecDepth 10000 in
set_option maxHeartbeats 1000000 in
theorem pmask_col (rb lb t : Nat) (w : World) (P : World → Prop) (R : Value → World → Prop)
    (h1 : Calls Tryz.prog 86 #[.pointer (some ⟨rb, 0, none⟩)] w fun e w' => e = .returned (.tuple #[.int .i64 t, .nilIface]) ∧ P w')
    (h2 : ∀ w1, P w1 → Calls Tryz.prog 88 #[.pointer (some ⟨rb, 0, none⟩)] w1 fun e w' => ∃ te pe, e = .returned (.tuple #[.int .i64 0, .iface te pe]) ∧ R (.iface te pe) w') :
    Calls Tryz.prog 59 #[.pointer (some ⟨rb, 0, none⟩), .pointer (some ⟨lb, 0, none⟩)] w fun e w' => ∃ te pe, e = .returned (.iface te pe) ∧ R (.iface te pe) w' := by
  go_enter Tryz.func59, Tryz.ntmps59
  go_wp2_with (first
    | (go_at_call 86; refine h1.mono ?_; rintro e w1 ⟨rfl, hP⟩)
    | (go_at_call 88; refine (h2 _ hP).mono ?_; rintro e w2 ⟨te, pe, rfl, hR⟩))
  go_ret
  exact ⟨te, pe, rfl, hR⟩
set_option maxRecDepth 10000 in
set_option maxHeartbeats 1000000 in
theorem pmask_val (rb lb t c : Nat) (x : List UInt8) (w : World) (P P2 P3 : World → Prop) (R : Value → World → Prop)
    (h1 : Calls Tryz.prog 86 #[.pointer (some ⟨rb, 0, none⟩)] w fun e w' => e = .returned (.tuple #[.int .i64 t, .nilIface]) ∧ P w')
    (h2 : ∀ w1, P w1 → Calls Tryz.prog 88 #[.pointer (some ⟨rb, 0, none⟩)] w1 fun e w' => e = .returned (.tuple #[.int .i64 c, .nilIface]) ∧ P2 w')
    (h3 : ∀ w1, P2 w1 → Calls Tryz.prog 57 #[.pointer (some ⟨rb, 0, none⟩)] w1 fun e w' => e = .returned (.string (bs x)) ∧ P3 w')
    (h4 : ∀ w1, P3 w1 → Calls Tryz.prog 89 #[.pointer (some ⟨rb, 0, none⟩), .string (bs x)] w1 fun e w' => ∃ te pe, e = .returned (.tuple #[.agg #[.int .i64 0, .int .i64 0, .string ⟨#[]⟩], .iface te pe]) ∧ R (.iface te pe) w') :
    Calls Tryz.prog 59 #[.pointer (some ⟨rb, 0, none⟩), .pointer (some ⟨lb, 0, none⟩)] w fun e w' => ∃ te pe w1, e = .returned (.iface te pe) ∧ R (.iface te pe) w1 ∧ Below w1.heap.size w1 w' := by
  go_enter Tryz.func59, Tryz.ntmps59
  go_wp2_with (first
    | (go_at_call 86; refine h1.mono ?_; rintro e w1 ⟨rfl, hP⟩)
    | (go_at_call 88; refine (h2 _ hP).mono ?_; rintro e w2 ⟨rfl, hP2⟩)
    | (go_at_call 57; refine (h3 _ hP2).mono ?_; rintro e w3 ⟨rfl, hP3⟩)
    | (go_at_call 89; refine (h4 _ hP3).mono ?_; rintro e w4 ⟨te, pe, rfl, hR⟩))
  go_ret
  exact ⟨te, pe, w4, rfl, hR, (Below.refl _ _).alloc (Nat.le_refl _) _⟩
set_option maxRecDepth 10000 in
set_option maxHeartbeats 2000000 in
theorem pmask_type (rb lb t c sb soff sn scap : Nat) (tv : Value) (x : List UInt8) (vt y : Int) (hne : y ≠ vt) (w : World) (P P2 P3 P4 : World → Prop) (R : Value → World → Prop) (ht : t < sn) (_hsn : sn ≤ 1048577)
    (h1 : Calls Tryz.prog 86 #[.pointer (some ⟨rb, 0, none⟩)] w fun e w' => e = .returned (.tuple #[.int .i64 t, .nilIface]) ∧ P w')
    (h2 : ∀ w1, P w1 → Calls Tryz.prog 88 #[.pointer (some ⟨rb, 0, none⟩)] w1 fun e w' => e = .returned (.tuple #[.int .i64 c, .nilIface]) ∧ P2 w')
    (h3 : ∀ w1, P2 w1 → Calls Tryz.prog 57 #[.pointer (some ⟨rb, 0, none⟩)] w1 fun e w' => e = .returned (.string (bs x)) ∧ P3 w')
    (h4 : ∀ w1, P3 w1 → Calls Tryz.prog 89 #[.pointer (some ⟨rb, 0, none⟩), .string (bs x)] w1 fun e w' => (∃ n S, e = .returned (.tuple #[.agg #[.int .i64 vt, .int .i64 n, .string S], .nilIface])) ∧ P4 w')
    (hS : ∀ w4 W, P4 w4 → Below w4.heap.size w4 W → W.cell? ⟨rb, 0, none⟩ = some (.slice (some ⟨sb, soff, none⟩) sn scap) ∧ W.cell? ⟨sb, soff + t * 2 + 1, none⟩ = some tv ∧ ∀ m, Calls Tryz.prog 90 #[tv, .int .i64 c] (W.drewN m) fun e w' => e = .returned (.int .i64 y) ∧ w' = W.drewN m)
    (hF : ∀ w4 W s, P4 w4 → Below w4.heap.size w4 W → Calls Tryz.prog 27 #[.pointer (some ⟨rb, 0, none⟩), .string s] W fun e w' => ∃ te pe, e = .returned (.iface te pe) ∧ R (.iface te pe) w') :
    Calls Tryz.prog 59 #[.pointer (some ⟨rb, 0, none⟩), .pointer (some ⟨lb, 0, none⟩)] w fun e w' => ∃ te pe, e = .returned (.iface te pe) ∧ R (.iface te pe) w' := by
  have hi : 0 ≤ (t : Int) ∧ (t : Int) < sn := by omega
  have hne' : (y != vt) = true := by simpa using hne
  go_enter Tryz.func59, Tryz.ntmps59
  go_wp2_with (first
    | (go_at_call 86; refine h1.mono ?_; rintro e w1 ⟨rfl, hP⟩)
    | (go_at_call 88; refine (h2 _ hP).mono ?_; rintro e w2 ⟨rfl, hP2⟩)
    | (go_at_call 57; refine (h3 _ hP2).mono ?_; rintro e w3 ⟨rfl, hP3⟩)
    | (go_at_call 89; refine (h4 _ hP3).mono ?_; rintro e w4 ⟨⟨n, S, rfl⟩, hP4⟩))
  have hba : Below w4.heap.size w4 (w4.alloc (.cells #[.int .i64 vt, .int .i64 n, .string S] 163)) := (Below.refl _ _).alloc (Nat.le_refl _) _
  obtain ⟨k0, k1, hT⟩ := hS w4 _ hP4 hba
  go_quiet (first | (go_at_call 90; exact quiet_c hT _) | (go_at_call 90; exact quiet_d hT _ _) | (go_at_call 90; exact quiet_e hT _ _))
  have hf := fun s => hF w4 ((w4.alloc (.cells #[.int .i64 vt, .int .i64 n, .string S] 163)).drewN nq) s hP4 (belowN hba nq)
  go_wp2_with (go_at_call 27; refine (hf _).mono ?_; rintro e w5 ⟨te, pe, rfl, hR⟩)
  go_ret
  exact ⟨te, pe, rfl, hR⟩
end Go.Proofs.YtiekijfmafklfaaGreatDoor
