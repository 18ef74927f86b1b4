import Derived.Test.YtiekijfmafklfaaGreatDoorProgFitC
namespace Go.Proofs.YtiekijfmafklfaaGreatDoor
open Go.RowKit

set_option maxRecDepth 10000 in
set_option maxHeartbeats 1000000 in
theorem plast_cond (rb t : Nat) (w : World) (R : Value → World → Prop)
    (h1 : Calls Tryz.prog 99 #[.pointer (some ⟨rb, 0, none⟩)] w fun e w' => ∃ te pe, e = .returned (.tuple #[.pointer none, .iface te pe]) ∧ R (.iface te pe) w') :
    Calls Tryz.prog 87 #[.pointer (some ⟨rb, 0, none⟩), .int .i64 t] w fun e w' => ∃ te pe, e = .returned (.tuple #[.pointer none, .iface te pe]) ∧ R (.iface te pe) w' := by
  go_enter Tryz.func87, Tryz.ntmps87
  go_wp2_with (go_at_call 99; refine h1.mono ?_; rintro e w1 ⟨te, pe, rfl, hR⟩)
  go_ret2
  exact ⟨te, pe, rfl, hR⟩
set_option maxRecDepth 10000 in
set_option maxHeartbeats 1000000 in
theorem plast_fit (rb t sb soff sn scap : Nat) (tv : Value) (w : World) (P : Nat → World → Prop) (R : Value → World → Prop) (ht : t < sn) (_hsn : sn ≤ 1048577)
    (h1 : Calls Tryz.prog 99 #[.pointer (some ⟨rb, 0, none⟩)] w fun e w' => ∃ b, e = .returned (.tuple #[.pointer (some ⟨b, 0, none⟩), .nilIface]) ∧ w'.cell? ⟨rb, 0, none⟩ = some (.slice (some ⟨sb, soff, none⟩) sn scap) ∧ w'.cell? ⟨sb, soff + t * 2 + 1, none⟩ = some tv ∧ P b w')
    (h2 : ∀ b w1, P b w1 → Calls Tryz.prog 100 #[.pointer (some ⟨rb, 0, none⟩), .pointer (some ⟨b, 0, none⟩), tv] w1 fun e w' => ∃ te pe, e = .returned (.iface te pe) ∧ R (.iface te pe) w') :
    Calls Tryz.prog 87 #[.pointer (some ⟨rb, 0, none⟩), .int .i64 t] w fun e w' => ∃ te pe, e = .returned (.tuple #[.pointer none, .iface te pe]) ∧ R (.iface te pe) w' := by
  have hi : 0 ≤ (t : Int) ∧ (t : Int) < sn := by omega
  go_enter Tryz.func87, Tryz.ntmps87
  go_wp2_with (first
    | (go_at_call 99; refine h1.mono ?_; rintro e w1 ⟨b, rfl, k0, k1, hP⟩)
    | (go_at_call 100; refine (h2 _ _ hP).mono ?_; rintro e w2 ⟨te, pe, rfl, hR⟩))
  go_ret2
  exact ⟨te, pe, rfl, hR⟩
set_option maxRecDepth 10000 in
set_option maxHeartbeats 1000000 in
theorem plast_end (rb t sb soff sn scap : Nat) (tv : Value) (w : World) (P : Nat → World → Prop) (P2 : Nat → World → Prop) (R : Value → World → Prop) (ht : t < sn) (_hsn : sn ≤ 1048577)
    (h1 : Calls Tryz.prog 99 #[.pointer (some ⟨rb, 0, none⟩)] w fun e w' => ∃ b, e = .returned (.tuple #[.pointer (some ⟨b, 0, none⟩), .nilIface]) ∧ w'.cell? ⟨rb, 0, none⟩ = some (.slice (some ⟨sb, soff, none⟩) sn scap) ∧ w'.cell? ⟨sb, soff + t * 2 + 1, none⟩ = some tv ∧ P b w')
    (h2 : ∀ b w1, P b w1 → Calls Tryz.prog 100 #[.pointer (some ⟨rb, 0, none⟩), .pointer (some ⟨b, 0, none⟩), tv] w1 fun e w' => e = .returned .nilIface ∧ P2 b w')
    (h3 : ∀ b w1, P2 b w1 → Calls Tryz.prog 29 #[.pointer (some ⟨rb, 0, none⟩)] w1 fun e w' => ∃ v, e = .returned v ∧ R v w') :
    Calls Tryz.prog 87 #[.pointer (some ⟨rb, 0, none⟩), .int .i64 t] w fun e w' => ∃ b v, e = .returned (.tuple #[.pointer (some ⟨b, 0, none⟩), v]) ∧ R v w' := by
  have hi : 0 ≤ (t : Int) ∧ (t : Int) < sn := by omega
  go_enter Tryz.func87, Tryz.ntmps87
  go_wp2_with (first
    | (go_at_call 99; refine h1.mono ?_; rintro e w1 ⟨b, rfl, k0, k1, hP⟩)
    | (go_at_call 100; refine (h2 _ _ hP).mono ?_; rintro e w2 ⟨rfl, hP2⟩)
    | (go_at_call 29; refine (h3 _ _ hP2).mono ?_; rintro e w3 ⟨v, rfl, hR⟩))
  go_ret2
  exact ⟨b, v, rfl, hR⟩

def LastAns (w0 w : World) (ok : Bool) (errno : Int) (e : Ending) (w' : World) : Prop :=
  (if ok then ∃ b : Nat, e = .returned (.tuple #[.pointer (some ⟨b, 0, none⟩), .nilIface]) else ∃ p te pe, e = .returned (.tuple #[.pointer p, .iface te pe]) ∧ Err w' errno (.iface te pe)) ∧ Stp w0.heap.size w w'
/-- The condition with which a rule ends. -/
theorem xlast (w0 w : World) (vs vw : Value) (ts : List (List UInt8 × List Bool)) (ws : List (List UInt8)) (taken t : Nat) (errno : Int) (rule : Bool) (hg : Glob w0) (hs : ReadsTabs tcode w0 vs ts) (hl : ts.length ≤ 1048577) (hlc : ∀ t, (ts.getD t ([], [])).2.length ≤ 9)
    (htl : t < ts.length) (hX : RX w0 w vs vw ws taken errno rule) (htk : taken ≤ ws.length) :
    Calls Tryz.prog 87 #[.pointer (some ⟨w0.heap.size, 0, none⟩), .int .i64 t] w fun e w' => LastAns w0 w (condAt ts (ts.getD t ([], [])).2 rule ws taken (ws.length - taken)) errno e w' := by
  have hcond := xcond w0 vs vw ts ws errno rule hg hs hl (ws.length + 1) w taken (by omega) htk hX
  rw [condAt_parse ts (ts.getD t ([], [])).2 rule ws (hlc t) hlc taken (ws.length + 1) (by omega) htk]
  cases hp : parseC ts rule ws (ws.length + 1) taken with
  | none =>
    rw [hp] at hcond
    refine (plast_cond _ t w (fun v w' => Err w' errno v ∧ Stp w0.heap.size w w') (hcond.mono ?_)).mono ?_
    · rintro e w' ⟨⟨te, pe, rfl, hE⟩, hS⟩; exact ⟨te, pe, rfl, hE, hS⟩
    · rintro e w' ⟨te, pe, rfl, hE, hS⟩
      exact ⟨by simpa using ⟨none, te, pe, ⟨rfl, rfl, rfl⟩, hE⟩, hS⟩
  | some p =>
    obtain ⟨c, j⟩ := p
    rw [hp] at hcond
    have hok := parse_ok ts rule ws _ _ _ _ hp
    obtain ⟨pl1, pl2, _⟩ := parse_len ts rule ws _ _ _ _ hp
    have he : ts.getD t ([], []) = ts[t] := by simp [List.getD, htl]
    obtain ⟨a0, cap0, hvs, hrow⟩ := id hs
    obtain ⟨sb, soff, tv, ha0, hsb, _, hc2, hrd⟩ := hrow t ts[t] (List.getElem?_eq_getElem htl)
    have h1 : Calls Tryz.prog 99 #[.pointer (some ⟨w0.heap.size, 0, none⟩)] w fun e w' => ∃ b, e = .returned (.tuple #[.pointer (some ⟨b, 0, none⟩), .nilIface]) ∧ w'.cell? ⟨w0.heap.size, 0, none⟩ = some (.slice (some ⟨sb, soff, none⟩) ts.length cap0) ∧ w'.cell? ⟨sb, soff + t * 2 + 1, none⟩ = some tv ∧
        (CndAt w'.heap.size w' c w.heap.size b ∧ RX w0 w' vs vw ws j errno rule ∧ Stp w0.heap.size w w') := by
      refine hcond.mono ?_
      rintro e w' ⟨⟨b, rfl, hC, hX'⟩, hS⟩
      refine ⟨b, rfl, ?_, (hX'.bel.cell (p := ⟨sb, soff + t * 2 + 1, none⟩) hsb).trans hc2, hC, hX', hS⟩
      rw [← ha0, ← hvs]; exact hX'.rd.c0
    have h2 := fun (b : Nat) w1 (hP : CndAt w1.heap.size w1 c w.heap.size b ∧ RX w0 w1 vs vw ws j errno rule ∧ Stp w0.heap.size w w1) => xfit w0 vs vw tv ts ts[t].2 ws j errno rule hs hl (fun q => Nat.le_trans (hlc q) (by decide)) hrd (by rw [← he]; exact Nat.le_trans (hlc t) (by decide)) c w1 _ _ b hP.2.1 (Nat.le_refl _) hP.1 hok
    rw [he]
    simp only
    cases hf : fitC ts ts[t].2 c with
    | false =>
      rw [hf] at h2
      refine (plast_fit _ t sb soff _ cap0 tv w _ (fun v w' => Err w' errno v ∧ Stp w0.heap.size w w') htl hl h1 fun b w1 hP => (h2 b w1 hP).mono ?_).mono ?_
      · rintro e w' ⟨hA, hb⟩
        obtain ⟨te, pe, rfl, hE⟩ : ∃ te pe, e = .returned (.iface te pe) ∧ Err w' errno (.iface te pe) := by simpa [FitAns] using hA
        exact ⟨te, pe, rfl, hE, hP.2.2.trans (Stp.of_below hb)⟩
      · rintro e w' ⟨te, pe, rfl, hE, hS⟩
        exact ⟨by simpa using ⟨none, te, pe, ⟨rfl, rfl, rfl⟩, hE⟩, hS⟩
    | true =>
      rw [hf] at h2
      have h2' : ∀ (b : Nat) w1, (CndAt w1.heap.size w1 c w.heap.size b ∧ RX w0 w1 vs vw ws j errno rule ∧ Stp w0.heap.size w w1) → Calls Tryz.prog 100 #[.pointer (some ⟨w0.heap.size, 0, none⟩), .pointer (some ⟨b, 0, none⟩), tv] w1 fun e w' => e = .returned .nilIface ∧ RX w0 w' vs vw ws j errno rule ∧ Stp w0.heap.size w w' := fun b w1 hP => (h2 b w1 hP).mono fun e w' ⟨hA, hb⟩ =>
        ⟨by simpa [FitAns] using hA, hP.2.1.below hb, hP.2.2.trans (Stp.of_below hb)⟩
      refine (plast_end _ t sb soff _ cap0 tv w _ (fun _ w' => RX w0 w' vs vw ws j errno rule ∧ Stp w0.heap.size w w') (fun v w' => (if ws.length ≤ j then v = .nilIface else ∃ te pe, v = .iface te pe ∧ Err w' errno (.iface te pe)) ∧ Stp w0.heap.size w w') htl hl h1 h2' fun b w1 hP => (xend w0 w1 vs vw ws j errno rule hP.1).mono ?_).mono ?_
      · rintro e w' ⟨hA, hb⟩
        by_cases hj : ws.length ≤ j
        · rw [if_pos hj] at hA; subst hA
          exact ⟨_, rfl, by rw [if_pos hj], hP.2.trans (Stp.of_below hb)⟩
        · rw [if_neg hj] at hA
          obtain ⟨te, pe, rfl, hE⟩ := hA
          exact ⟨_, rfl, by rw [if_neg hj]; exact ⟨te, pe, rfl, hE⟩, hP.2.trans (Stp.of_below hb)⟩
      · rintro e w' ⟨b, v, rfl, hA, hS⟩
        refine ⟨?_, hS⟩
        by_cases hj : ws.length ≤ j
        · rw [if_pos hj] at hA; subst hA
          have : j = ws.length := by omega
          simp [this]
        · rw [if_neg hj] at hA
          obtain ⟨te, pe, rfl, hE⟩ := hA
          have : ¬ j = ws.length := by omega
          simp only [this, decide_false, Bool.and_false, Bool.false_eq_true, if_false]
          exact ⟨_, te, pe, rfl, hE⟩
end Go.Proofs.YtiekijfmafklfaaGreatDoor
