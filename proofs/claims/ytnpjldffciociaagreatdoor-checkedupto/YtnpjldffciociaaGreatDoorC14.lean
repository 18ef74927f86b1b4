import Derived.Test.YtnpjldffciociaaGreatDoorC13
import Derived.Test.YtnpjldffciociaaGreatDoorC09
import Derived.Deep.RegionWith
namespace Go.Proofs.YtnpjldffciociaaGreatDoor
open Go.RowKit

set_option maxRecDepth 10000 in
set_option maxHeartbeats 1000000 in
theorem p2v_no (rb : Nat) (w : World) (R : Value → World → Prop)
    (h1 : Calls Tryz.prog 99 #[.pointer (some ⟨rb, 0, none⟩)] w fun e w' => ∃ te pe, e = .returned (.tuple #[.pointer none, .iface te pe]) ∧ R (.iface te pe) w') :
    Calls Tryz.prog 247 #[.pointer (some ⟨rb, 0, none⟩)] w fun e w' => ∃ te pe, e = .returned (.tuple #[.pointer none, .pointer none, .iface te pe]) ∧ R (.iface te pe) w' := by
  go_enter Tryz.func247, Tryz.ntmps247
  go_wp2_with (go_at_call 99; refine h1.mono ?_; rintro e w1 ⟨te, pe, rfl, hR⟩)
  go_ret3
  exact ⟨te, pe, rfl, hR⟩
set_option maxRecDepth 10000 in
set_option maxHeartbeats 1000000 in
theorem p2v_go (rb : Nat) (w : World) (P1 : Nat → World → Prop) (Q : Nat → Option Addr → Value → World → Prop)
    (h1 : Calls Tryz.prog 99 #[.pointer (some ⟨rb, 0, none⟩)] w fun e w' => ∃ b, e = .returned (.tuple #[.pointer (some ⟨b, 0, none⟩), .nilIface]) ∧ P1 b w')
    (h2 : ∀ b w1, P1 b w1 → Calls Tryz.prog 99 #[.pointer (some ⟨rb, 0, none⟩)] w1 fun e w' => ∃ p v, e = .returned (.tuple #[.pointer p, v]) ∧ Q b p v w') :
    Calls Tryz.prog 247 #[.pointer (some ⟨rb, 0, none⟩)] w fun e w' => ∃ b p v, e = .returned (.tuple #[.pointer (some ⟨b, 0, none⟩), .pointer p, v]) ∧ Q b p v w' := by
  go_enter Tryz.func247, Tryz.ntmps247
  go_wp2_with (go_at_call 99; first | (with_reducible refine h1.mono ?_; rintro e w1 ⟨b, rfl, hP⟩) | (with_reducible refine (h2 _ _ hP).mono ?_; rintro e w2 ⟨p, v, rfl, hQ⟩))
  go_ret3
  exact ⟨b, p, v, rfl, hQ⟩

/-- What 'twoViews' answers. -/
def TVAns (w0 w : World) (vs vw : Value) (ws : List (List UInt8)) (errno : Int) (rule : Bool) (o : Option (List Bool × List Bool × Nat)) (e : Ending) (w' : World) : Prop :=
  (match o with
    | some (a, c, j) => ∃ b1 b2, e = .returned (.tuple #[.pointer (some ⟨b1, 0, none⟩), .pointer (some ⟨b2, 0, none⟩), .nilIface]) ∧ VwAt w0.heap.size w' b1 a ∧ VwAt w0.heap.size w' b2 c ∧ RX w0 w' vs vw ws j errno rule
    | none => ∃ p q te pe, e = .returned (.tuple #[.pointer p, .pointer q, .iface te pe]) ∧ Err w' errno (.iface te pe)) ∧ Stp w0.heap.size w w'

theorem xtwoV (w0 w : World) (vs vw : Value) (ws : List (List UInt8)) (taken : Nat) (errno : Int) (rule : Bool) (V : Nat → Option (List Bool × Nat)) (h : RX w0 w vs vw ws taken errno rule) (htk : taken ≤ ws.length)
    (hV : ∀ w1 i, taken ≤ i → i ≤ ws.length → RX w0 w1 vs vw ws i errno rule → Calls Tryz.prog 99 #[.pointer (some ⟨w0.heap.size, 0, none⟩)] w1 fun e w' => WAns w0 w1 vs vw ws errno rule (V i) e w')
    (hVl : ∀ i xs j, V i = some (xs, j) → i < j ∧ j ≤ ws.length) :
    Calls Tryz.prog 247 #[.pointer (some ⟨w0.heap.size, 0, none⟩)] w fun e w' => TVAns w0 w vs vw ws errno rule (twoV V taken) e w' := by
  have h1 := hV w taken (Nat.le_refl _) htk h
  unfold twoV
  cases hv : V taken with
  | none =>
    rw [hv] at h1
    refine (p2v_no _ w (fun v w' => Err w' errno v ∧ Stp w0.heap.size w w') (h1.mono ?_)).mono ?_
    · rintro e w' ⟨⟨te, pe, rfl, hE⟩, hS⟩; exact ⟨te, pe, rfl, hE, hS⟩
    · rintro e w' ⟨te, pe, rfl, hE, hS⟩
      exact ⟨⟨none, none, te, pe, rfl, hE⟩, hS⟩
  | some p =>
    obtain ⟨a, j⟩ := p
    rw [hv] at h1
    obtain ⟨l1, l2⟩ := hVl _ _ _ hv
    refine (p2v_go _ w (fun b w' => VwAt w0.heap.size w' b a ∧ RX w0 w' vs vw ws j errno rule ∧ Stp w0.heap.size w w')
      (fun b p v w' => WAns w0 w vs vw ws errno rule (V j) (.returned (.tuple #[.pointer p, v])) w' ∧ VwAt w0.heap.size w' b a) (h1.mono ?_) fun b w1 hP => (hV w1 j (by omega) l2 hP.2.1).mono ?_).mono ?_
    · rintro e w' ⟨⟨b, rfl, hA, hX'⟩, hS⟩; exact ⟨b, rfl, hA, hX', hS⟩
    · rintro e w' hW
      have hS' := hW.2
      have hW' := hW.trans hP.2.2
      cases hv2 : V j with
      | none =>
        rw [hv2] at hW'
        obtain ⟨⟨te, pe, rfl, hE⟩, hS⟩ := hW'
        exact ⟨_, _, rfl, ⟨⟨te, pe, rfl, hE⟩, hS⟩, hP.1.stp hS'⟩
      | some q =>
        rw [hv2] at hW'
        obtain ⟨⟨b2, rfl, hR⟩, hS⟩ := hW'
        exact ⟨_, _, rfl, ⟨⟨b2, rfl, hR⟩, hS⟩, hP.1.stp hS'⟩
    · rintro e w' ⟨b, p, v, rfl, hW, hA⟩
      simp only
      cases hv2 : V j with
      | none =>
        rw [hv2] at hW
        obtain ⟨⟨te, pe, he, hE⟩, hS⟩ := hW
        injection he with he; injection he with he
        simp at he
        obtain ⟨rfl, rfl⟩ := he
        exact ⟨⟨_, _, te, pe, rfl, hE⟩, hS⟩
      | some q =>
        obtain ⟨c, j2⟩ := q
        rw [hv2] at hW
        obtain ⟨⟨b2, he, hB, hX2⟩, hS⟩ := hW
        injection he with he; injection he with he
        simp at he
        obtain ⟨rfl, rfl⟩ := he
        exact ⟨⟨b, b2, rfl, hA, hB, hX2⟩, hS⟩

set_option maxRecDepth 10000 in
set_option maxHeartbeats 1000000 in
theorem pboth_no (rb : Nat) (w : World) (R : Value → World → Prop)
    (h1 : Calls Tryz.prog 247 #[.pointer (some ⟨rb, 0, none⟩)] w fun e w' => ∃ p q te pe, e = .returned (.tuple #[.pointer p, .pointer q, .iface te pe]) ∧ R (.iface te pe) w') :
    Calls Tryz.prog 202 #[.pointer (some ⟨rb, 0, none⟩)] w fun e w' => ∃ te pe, e = .returned (.tuple #[.pointer none, .iface te pe]) ∧ R (.iface te pe) w' := by
  go_enter Tryz.func202, Tryz.ntmps202
  go_wp2_with (go_at_call 247; refine h1.mono ?_; rintro e w1 ⟨p, q, te, pe, rfl, hR⟩)
  go_ret2
  exact ⟨te, pe, rfl, hR⟩
/-- Two views at hand, their types in two slices. -/
def TwoAt (w : World) (b1 b2 : Nat) (ta1 : Option Addr) (tn1 tc1 : Nat) (ta2 : Option Addr) (tn2 tc2 : Nat) : Prop := w.cell? ⟨b1, 6, none⟩ = some (.slice ta1 tn1 tc1) ∧ w.cell? ⟨b2, 6, none⟩ = some (.slice ta2 tn2 tc2) ∧ b1 < w.heap.size ∧ b2 < w.heap.size
set_option maxRecDepth 10000 in
set_option maxHeartbeats 1000000 in
theorem pboth_ne (rb : Nat) (w : World) (R : Value → World → Prop) (P1 : Value → Value → World → Prop) (P2 : World → Prop) (hd : ∀ t1 t2 w1, P1 t1 t2 w1 → P1 t1 t2 w1.drew)
    (h1 : Calls Tryz.prog 247 #[.pointer (some ⟨rb, 0, none⟩)] w fun e w' => ∃ b1 b2 ta1 tn1 tc1 ta2 tn2 tc2, e = .returned (.tuple #[.pointer (some ⟨b1, 0, none⟩), .pointer (some ⟨b2, 0, none⟩), .nilIface]) ∧ w'.cell? ⟨b1, 6, none⟩ = some (.slice ta1 tn1 tc1) ∧ w'.cell? ⟨b2, 6, none⟩ = some (.slice ta2 tn2 tc2) ∧ P1 (.slice ta1 tn1 tc1) (.slice ta2 tn2 tc2) w')
    (h2 : ∀ t1 t2 w1, P1 t1 t2 w1 → Calls Tryz.prog 250 #[t1, t2] w1 fun e w' => e = .returned (.bool false) ∧ P2 w')
    (h3 : ∀ w1 s, P2 w1 → Calls Tryz.prog 98 #[.pointer (some ⟨rb, 0, none⟩), .string s] w1 fun e w' => ∃ te pe, e = .returned (.iface te pe) ∧ R (.iface te pe) w') :
    Calls Tryz.prog 202 #[.pointer (some ⟨rb, 0, none⟩)] w fun e w' => ∃ te pe, e = .returned (.tuple #[.pointer none, .iface te pe]) ∧ R (.iface te pe) w' := by
  go_enter Tryz.func202, Tryz.ntmps202
  go_wp2_with (go_at_call 247; refine h1.mono ?_; rintro e w1 ⟨b1, b2, ta1, tn1, tc1, ta2, tn2, tc2, rfl, k1, k2, hP⟩)
  go_region_with (go_at_call 250; refine (h2 _ _ _ (hd _ _ _ hP)).mono ?_; rintro e w2 ⟨rfl, hP2⟩)
  all_goals go_wp2_with (go_at_call 98; refine (h3 _ _ hP2).mono ?_; rintro e w3 ⟨te, pe, rfl, hR⟩)
  all_goals go_ret2
  all_goals exact ⟨te, pe, rfl, hR⟩
set_option maxRecDepth 10000 in
set_option maxHeartbeats 1000000 in
theorem pboth_yes (rb : Nat) (w : World) (P1 : Nat → Nat → Value → Value → World → Prop) (P2 : Value → World → Prop) (hd : ∀ b1 b2 t1 t2 w1, P1 b1 b2 t1 t2 w1 → P1 b1 b2 t1 t2 w1.drew)
    (h1 : Calls Tryz.prog 247 #[.pointer (some ⟨rb, 0, none⟩)] w fun e w' => ∃ b1 b2 ta1 tn1 tc1 ta2 tn2 tc2, e = .returned (.tuple #[.pointer (some ⟨b1, 0, none⟩), .pointer (some ⟨b2, 0, none⟩), .nilIface]) ∧ w'.cell? ⟨b1, 6, none⟩ = some (.slice ta1 tn1 tc1) ∧ w'.cell? ⟨b2, 6, none⟩ = some (.slice ta2 tn2 tc2) ∧ P1 b1 b2 (.slice ta1 tn1 tc1) (.slice ta2 tn2 tc2) w')
    (h2 : ∀ b1 b2 t1 t2 w1, P1 b1 b2 t1 t2 w1 → Calls Tryz.prog 250 #[t1, t2] w1 fun e w' => e = .returned (.bool true) ∧ b1 < w'.heap.size ∧ w'.cell? ⟨b1, 6, none⟩ = some t1 ∧ P2 t1 w') :
    Calls Tryz.prog 202 #[.pointer (some ⟨rb, 0, none⟩)] w fun e w' => ∃ tv w3, P2 tv w3 ∧ NewVw w3 tv e w' := by
  go_enter Tryz.func202, Tryz.ntmps202
  go_wp2_with (go_at_call 247; refine h1.mono ?_; rintro e w1 ⟨b1, b2, ta1, tn1, tc1, ta2, tn2, tc2, rfl, k1, k2, hP⟩)
  go_region_with (go_at_call 250; refine (h2 _ _ _ _ _ (hd _ _ _ _ _ hP)).mono ?_; rintro e w2 ⟨rfl, hlt, k3, hP2⟩; have kA := fun o => lift_alloc o hlt k3)
  all_goals go_wp2
  all_goals go_ret2
  all_goals exact ⟨_, w2, hP2, NewVw.after ((Below.refl _ _).alloc (Nat.le_refl _) _) (newVw1 _ _ _ _ _ _ _ _ _ (by simp))⟩
end Go.Proofs.YtnpjldffciociaaGreatDoor
