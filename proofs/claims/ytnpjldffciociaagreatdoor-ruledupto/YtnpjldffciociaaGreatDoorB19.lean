import Derived.Test.YtnpjldffciociaaGreatDoorB18
import Derived.Test.YtnpjldffciociaaGreatDoorB15
namespace Go.Proofs.YtnpjldffciociaaGreatDoor
open Go.RowKit

set_option maxRecDepth 10000 in
set_option maxHeartbeats 2000000 in
theorem ptable_yes (rb : Nat) (w : World) (P : World → Prop) (x : List UInt8) (vs : Value) (k : Nat) (h0 : w.cell? ⟨rb, 0, none⟩ = some vs)
    (hw : ∀ W, Below w.heap.size w W → Calls Tryz.prog 156 #[.pointer (some ⟨rb, 0, none⟩)] W fun e w' => e = .returned (.string (bs x)) ∧ w'.cell? ⟨rb, 0, none⟩ = some vs ∧ P w')
    (hf : ∀ W, P W → Calls Tryz.prog 96 #[vs, .string (bs x)] W fun e w' => e = .returned (.int .i64 k) ∧ P w') :
    Calls Tryz.prog 160 #[.pointer (some ⟨rb, 0, none⟩)] w fun e w' => e = .returned (.tuple #[.int .i64 k, .nilIface]) ∧ P w' := by
  have hk : ¬ ((k : Int) < 0) := by omega
  go_enter Tryz.func160, Tryz.ntmps160
  go_wp2
  go_region_with (first
    | (go_at_call 156; with_reducible refine (hw _ ?hb).mono ?_; (case hb => first | exact Below.refl _ _ | exact (Below.refl _ _).drew); rintro e w1 ⟨rfl, hc1, hP⟩)
    | (go_at_call 96; with_reducible refine (hf _ ?hp).mono ?_; (case hp => exact hP); rintro e w2 ⟨rfl, hP2⟩))
  all_goals go_wp2
  all_goals go_ret2
  all_goals refine ⟨rfl, ?_⟩
  all_goals exact hP2

set_option maxRecDepth 10000 in
set_option maxHeartbeats 2000000 in
theorem ptable_no (rb : Nat) (w : World) (P : World → Prop) (x : List UInt8) (vs : Value) (errno : Int) (h0 : w.cell? ⟨rb, 0, none⟩ = some vs)
    (hw : ∀ W, Below w.heap.size w W → Calls Tryz.prog 156 #[.pointer (some ⟨rb, 0, none⟩)] W fun e w' => e = .returned (.string (bs x)) ∧ w'.cell? ⟨rb, 0, none⟩ = some vs ∧ P w')
    (hf : ∀ W, P W → Calls Tryz.prog 96 #[vs, .string (bs x)] W fun e w' => e = .returned (.int .i64 (-1)) ∧ P w')
    (hwr : ∀ w1 s, P w1 → Calls Tryz.prog 159 #[.pointer (some ⟨rb, 0, none⟩), .string s] w1 fun e w' => ∃ te pe, e = .returned (.iface te pe) ∧ Err w' errno (.iface te pe) ∧ P w') :
    Calls Tryz.prog 160 #[.pointer (some ⟨rb, 0, none⟩)] w fun e w' => (∃ te pe, e = .returned (.tuple #[.int .i64 0, .iface te pe]) ∧ Err w' errno (.iface te pe)) ∧ P w' := by
  go_enter Tryz.func160, Tryz.ntmps160
  go_wp2
  go_region_with (first
    | (go_at_call 156; with_reducible refine (hw _ ?hb).mono ?_; (case hb => first | exact Below.refl _ _ | exact (Below.refl _ _).drew); rintro e w1 ⟨rfl, hc1, hP⟩)
    | (go_at_call 96; with_reducible refine (hf _ ?hp).mono ?_; (case hp => exact hP); rintro e w2 ⟨rfl, hP2⟩))
  all_goals go_wp2_with (go_at_call 159; with_reducible refine (hwr _ _ ?hp).mono ?_; (case hp => exact hP2); rintro e w3 ⟨te, pe, rfl, hE, hP3⟩)
  all_goals go_ret2
  all_goals exact ⟨⟨_, _, rfl, hE⟩, hP3⟩

/-- TABLE. -/
theorem xtable (w0 w : World) (vs vw : Value) (ts : List (List UInt8 × List Bool)) (ws : List (List UInt8)) (taken : Nat) (errno : Int) (rule : Bool) (h : RX w0 w vs vw ws taken errno rule) (ht : taken ≤ 16777216) (hs : ReadsTabs tcode w0 vs ts) (hl : ts.length ≤ 1048577) :
    Calls Tryz.prog 160 #[.pointer (some ⟨w0.heap.size, 0, none⟩)] w fun e w' => NumAns (findT ts (wordAt ws taken)) errno e w' ∧ RX w0 w' vs vw ws (taken + 1) errno rule ∧ Stp w0.heap.size w w' := by
  have hw : ∀ W, Below w.heap.size w W → Calls Tryz.prog 156 #[.pointer (some ⟨w0.heap.size, 0, none⟩)] W fun e w' => e = .returned (.string (bs (wordAt ws taken))) ∧ w'.cell? ⟨w0.heap.size, 0, none⟩ = some vs ∧ RX w0 w' vs vw ws (taken + 1) errno rule ∧ Stp w0.heap.size w w' := by
    intro W hb
    refine (xword w0 W vs vw ws taken errno rule (h.below hb) ht).mono ?_
    rintro e w' ⟨rfl, hX, hS⟩
    exact ⟨rfl, hX.rd.c0, hX, (Stp.of_below hb).trans hS⟩
  have hf : ∀ W, (RX w0 W vs vw ws (taken + 1) errno rule ∧ Stp w0.heap.size w W) → Calls Tryz.prog 96 #[vs, .string (bs (wordAt ws taken))] W fun e w' => e = .returned (.int .i64 (idxOf (findT ts (wordAt ws taken)))) ∧ (RX w0 w' vs vw ws (taken + 1) errno rule ∧ Stp w0.heap.size w w') := by
    rintro W ⟨hX, hS⟩
    refine (pFind_any vs ts _ W (hs.below hX.bel) hl).mono ?_
    rintro e w' ⟨rfl, hb⟩
    exact ⟨rfl, hX.below hb, hS.trans (Stp.of_below hb)⟩
  cases hc : findT ts (wordAt ws taken) with
  | some c =>
    rw [hc] at hf
    exact ptable_yes _ w _ _ vs c h.rd.c0 hw hf
  | none =>
    rw [hc] at hf
    refine ptable_no _ w _ _ vs errno h.rd.c0 hw hf ?_
    rintro w1 s ⟨hX, hS⟩
    refine (pwrong_any w1 w0.heap.size (taken + 1) errno s hX.rd.c2 hX.rd.c3 hX.rd.lt).mono ?_
    rintro e w' ⟨te, pe, rfl, hE, hb⟩
    exact ⟨te, pe, rfl, hE, hX.below hb, hS.trans (Stp.of_below hb)⟩
end Go.Proofs.YtnpjldffciociaaGreatDoor
