import Derived.Test.YtiekijfmafklfaaGreatDoorProgW
namespace Go.Proofs.YtiekijfmafklfaaGreatDoor
open Go.RowKit

set_option maxRecDepth 10000 in
set_option maxHeartbeats 2000000 in
theorem pcomb_no (rb : Nat) (test n : Int) (hn : 0 < n) (w : World) (R : Value → World → Prop)
    (h1 : ∀ W, W = w.alloc (.cells (combRaw test (.slice none 0 0)).row 200) → Calls Tryz.prog 99 #[.pointer (some ⟨rb, 0, none⟩)] W fun e w' => ∃ te pe, e = .returned (.tuple #[.pointer none, .iface te pe]) ∧ R (.iface te pe) w') :
    Calls Tryz.prog 125 #[.pointer (some ⟨rb, 0, none⟩), .int .i64 test, .int .i64 n] w fun e w' => ∃ te pe, e = .returned (.tuple #[.pointer none, .iface te pe]) ∧ R (.iface te pe) w' := by
  have h1' := h1 _ rfl
  go_enter Tryz.func125, Tryz.ntmps125
  go_wp2
  refine wp_loop_rounds 1 ?_
  rw [rounds_succ]
  go_wp2_with (go_at_call 99; refine h1'.mono ?_; rintro e w1 ⟨te, pe, rfl, hR⟩)
  go_ret2
  exact ⟨te, pe, rfl, hR⟩

set_option maxRecDepth 10000 in
set_option maxHeartbeats 2000000 in
theorem pcomb2_no (rb : Nat) (test : Int) (w : World) (P1 : Nat → World → Prop) (R : Value → World → Prop)
    (h1 : ∀ W, W = w.alloc (.cells (combRaw test (.slice none 0 0)).row 200) → Calls Tryz.prog 99 #[.pointer (some ⟨rb, 0, none⟩)] W fun e w' => ∃ b1, e = .returned (.tuple #[.pointer (some ⟨b1, 0, none⟩), .nilIface]) ∧ CBk w' w.heap.size (combRaw test (.slice none 0 0)) ∧ w.heap.size < w'.heap.size ∧ P1 b1 w')
    (h2 : ∀ b1 w1 pv W, P1 b1 w1 → Mid w.heap.size test (.slice none 0 0) pv [.pointer (some ⟨b1, 0, none⟩)] w1 W → Calls Tryz.prog 99 #[.pointer (some ⟨rb, 0, none⟩)] W fun e w' => ∃ te pe, e = .returned (.tuple #[.pointer none, .iface te pe]) ∧ R (.iface te pe) w') :
    Calls Tryz.prog 125 #[.pointer (some ⟨rb, 0, none⟩), .int .i64 test, .int .i64 2] w fun e w' => ∃ te pe, e = .returned (.tuple #[.pointer none, .iface te pe]) ∧ R (.iface te pe) w' := by
  obtain ⟨i0, hi, hz0, hz1, hz2⟩ := info_parts Tryz.infoPC
  have h1' := h1 _ rfl
  go_enter Tryz.func125, Tryz.ntmps125
  go_wp2
  refine wp_loop_rounds 2 ?_
  rw [rounds_succ]
  go_wp2_with (first
    | (go_at_call 99; refine h1'.mono ?_; rintro e w1 ⟨b1, rfl, hc, hlt, hP⟩; obtain ⟨k0, k1, k2⟩ := hc.at10)
    | (at_builtin; refine wpList_append_own_at _ rfl _ _ 198 rfl (w.heap.size + 1) 43 i0 (.pointer none) 1 8 Tryz.underlying198 hi hz0 hz1 hz2 rfl (by decide) _ _ _ rfl (World.ownsRow_nil _ _ _ _) ⟨w1.heap.size, 0, none⟩ 1 1 [.pointer (some ⟨b1, 0, none⟩)] rfl rfl (cell_one_new w1 _ _) ?ha ?hb ?hc ?hd ?_; (case ha => intro u hu; simp at hu; subst hu; rfl); (case hb => unfold maxLen; omega); (case hc => omega); (case hd => simp; omega); intro pv w3 hrow hg _ hat; have HM := hidR (Mid.mk' (vs := []) hc (World.ownsRow_nil _ _ _ _) hrow hg hat); obtain ⟨q0, q1, q2⟩ := (mid_blk (vs := []) hc (World.ownsRow_nil _ _ _ _) hg).at10; obtain ⟨pa, pc, rfl, _⟩ := row_slice hrow; clear hrow hg hat))
  have h2' := h2 _ _ _ _ hP HM.out
  rw [rounds_succ]
  go_wp2_with (go_at_call 99; refine h2'.mono ?_; rintro e w4 ⟨te, pe, rfl, hR⟩)
  go_ret2
  exact ⟨te, pe, rfl, hR⟩

set_option maxRecDepth 10000 in
set_option maxHeartbeats 2000000 in
theorem pcomb2_yes (rb : Nat) (test : Int) (w : World) (P1 : Nat → World → Prop) (P2 : Nat → World → Value → World → Nat → World → Prop)
    (h1 : ∀ W, W = w.alloc (.cells (combRaw test (.slice none 0 0)).row 200) → Calls Tryz.prog 99 #[.pointer (some ⟨rb, 0, none⟩)] W fun e w' => ∃ b1, e = .returned (.tuple #[.pointer (some ⟨b1, 0, none⟩), .nilIface]) ∧ CBk w' w.heap.size (combRaw test (.slice none 0 0)) ∧ w.heap.size < w'.heap.size ∧ P1 b1 w')
    (h2 : ∀ b1 w1 pv W, P1 b1 w1 → Mid w.heap.size test (.slice none 0 0) pv [.pointer (some ⟨b1, 0, none⟩)] w1 W → Calls Tryz.prog 99 #[.pointer (some ⟨rb, 0, none⟩)] W fun e w' => ∃ b2, e = .returned (.tuple #[.pointer (some ⟨b2, 0, none⟩), .nilIface]) ∧ CBk w' w.heap.size (combRaw test pv) ∧ w'.ownsRow (w.heap.size + 1) 43 1 pv 1 [.pointer (some ⟨b1, 0, none⟩)] ∧ w.heap.size < w'.heap.size ∧ P2 b1 w1 pv W b2 w') :
    Calls Tryz.prog 125 #[.pointer (some ⟨rb, 0, none⟩), .int .i64 test, .int .i64 2] w fun e w' => ∃ b1 w1 pv W b2 w4 pv2, e = .returned (.tuple #[.pointer (some ⟨w.heap.size, 0, none⟩), .nilIface]) ∧ P1 b1 w1 ∧
      Mid w.heap.size test (.slice none 0 0) pv [.pointer (some ⟨b1, 0, none⟩)] w1 W ∧ P2 b1 w1 pv W b2 w4 ∧ Mid w.heap.size test pv pv2 [.pointer (some ⟨b1, 0, none⟩), .pointer (some ⟨b2, 0, none⟩)] w4 w' := by
  obtain ⟨i0, hi, hz0, hz1, hz2⟩ := info_parts Tryz.infoPC
  have h1' := h1 _ rfl
  go_enter Tryz.func125, Tryz.ntmps125
  go_wp2
  refine wp_loop_rounds 3 ?_
  rw [rounds_succ]
  go_wp2_with (first
    | (go_at_call 99; refine h1'.mono ?_; rintro e w1 ⟨b1, rfl, hc, hlt, hP⟩; obtain ⟨k0, k1, k2⟩ := hc.at10)
    | (at_builtin; refine wpList_append_own_at _ rfl _ _ 198 rfl (w.heap.size + 1) 43 i0 (.pointer none) 1 8 Tryz.underlying198 hi hz0 hz1 hz2 rfl (by decide) _ _ _ rfl (World.ownsRow_nil _ _ _ _) ⟨w1.heap.size, 0, none⟩ 1 1 [.pointer (some ⟨b1, 0, none⟩)] rfl rfl (cell_one_new w1 _ _) ?ha ?hb ?hc ?hd ?_; (case ha => intro u hu; simp at hu; subst hu; rfl); (case hb => unfold maxLen; omega); (case hc => omega); (case hd => simp; omega); intro pv w3 hrow hg _ hat; have HM := hidR (Mid.mk' (vs := []) hc (World.ownsRow_nil _ _ _ _) hrow hg hat); obtain ⟨q0, q1, q2⟩ := (mid_blk (vs := []) hc (World.ownsRow_nil _ _ _ _) hg).at10; obtain ⟨pa, pc, rfl, _⟩ := row_slice hrow; clear hrow hg hat))
  have h2' := h2 _ _ _ _ hP HM.out
  clear k0 k1 k2 q0 q1 q2 hc hlt h1'
  rw [rounds_succ]
  go_wp2_with (first
    | (go_at_call 99; refine h2'.mono ?_; rintro e w4 ⟨b2, rfl, hc4, ho4, hlt4, hP2⟩; obtain ⟨k0, k1, k2⟩ := hc4.at10)
    | (at_builtin; refine wpList_append_own_at _ rfl _ _ 198 rfl (w.heap.size + 1) 43 i0 (.pointer none) 1 8 Tryz.underlying198 hi hz0 hz1 hz2 rfl (by decide) _ _ _ rfl (ho4.alloc _) ⟨w4.heap.size, 0, none⟩ 1 1 [.pointer (some ⟨b2, 0, none⟩)] rfl rfl (cell_one_new w4 _ _) ?ha ?hb ?hc ?hd ?_; (case ha => intro u hu; simp at hu; subst hu; rfl); (case hb => unfold maxLen; omega); (case hc => omega); (case hd => simp; omega); intro pv2 w5 hrow5 hg5 _ hat5; have HM5 := hidR (Mid.mk' (vs := [.pointer (some ⟨b1, 0, none⟩)]) hc4 ho4 hrow5 hg5 hat5); obtain ⟨q0, q1, q2⟩ := (mid_blk (vs := [.pointer (some ⟨b1, 0, none⟩)]) hc4 ho4 hg5).at10; obtain ⟨pa2, pc2, rfl, _⟩ := row_slice hrow5; clear hrow5 hg5 hat5))
  rw [rounds_succ]
  go_wp2
  go_ret2
  exact ⟨b1, w1, _, _, b2, w4, _, rfl, hP, HM.out, hP2, HM5.out⟩
end Go.Proofs.YtiekijfmafklfaaGreatDoor
