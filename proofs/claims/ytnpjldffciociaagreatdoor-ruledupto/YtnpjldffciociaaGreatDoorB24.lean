import Derived.Test.YtnpjldffciociaaGreatDoorB23
import Derived.Maps.AppendAt
import Derived.LoopN
namespace Go.Proofs.YtnpjldffciociaaGreatDoor
open Go.RowKit

theorem hidR {p : Prop} (h : p) : Hid p := h
theorem Tryz.infoPC : (Tryz.prog.info? 109).map (fun i => (i.zero, i.size, i.bytes)) = some (some (.pointer none), 1, 8) := by kernel_rfl
abbrev combRaw (test : Int) (pv : Value) : Raw := { test := test, col := 0, vt := 0, vn := 0, vs := ByteArray.empty, me := false, other := 0, table := 0, mtch := 0, who := 0, parts := pv, pl := 0 }
theorem CBk.parts {w : World} {b : Nat} {test : Int} {pv : Value} (h : CBk w b (combRaw test pv)) (pv' : Value) : CBk (w.setCell ⟨b, 10, none⟩ pv') b (combRaw test pv') := by
  unfold CBk at *
  simp only [World.setCell, Array.getElem?_modify, h]
  simp [Raw.row]
theorem CBk.at10 {w : World} {b : Nat} {r : Raw} (h : CBk w b r) : w.cell? ⟨b, 10, none⟩ = some r.parts ∧ w.frozen? ⟨b, 10, none⟩ = false ∧ b < w.heap.size :=
  ⟨by rw [Lib.cell_of_heap h]; rfl, Lib.frozen_of_heap h 10, (Array.getElem?_eq_some_iff.1 h).1⟩
/-- One part more: the world w1 in which it was read, and the one, W, in which it is kept. -/
structure Mid (b : Nat) (test : Int) (pv0 pv : Value) (vs : List Value) (w1 W : World) : Prop where
  blk : CBk W b (combRaw test pv)
  row : W.ownsRow (b + 1) 109 1 pv vs.length vs
  size : w1.heap.size ≤ W.heap.size
  os : W.os = w1.os
  tape : W.tape = w1.tape
  output : W.output = w1.output
  keep : ∀ k, k < w1.heap.size → k ≠ b → some k ≠ pv0.ownBlock → W.heap[k]? = w1.heap[k]?
  new : ∀ g, pv.ownBlock = some g → pv0.ownBlock = some g ∨ w1.heap.size ≤ g
theorem cbk_ne {w : World} {b : Nat} {r : Raw} {base n : Nat} {v : Value} {xs : List Value} (h : CBk w b r) (ho : w.ownsRow base 109 1 v n xs) : v.ownBlock ≠ some b := by
  intro hg
  rcases ho.2 with ⟨rfl, _⟩ | ⟨g, cap, cur, rfl, _, hh, _⟩
  · simp [Value.ownBlock] at hg
  · have : g = b := by simpa [Value.ownBlock] using hg
    subst this
    have := hh.symm.trans h
    simp at this
theorem row_slice {w : World} {base : Nat} {e : TypeId} {size : Nat} {v : Value} {n : Nat} {xs : List Value} (h : w.ownsRow base e size v n xs) : ∃ va vc, v = .slice va n vc ∧ (0 < n → ∃ g, va = some ⟨g, 0, none⟩) := by
  rcases h.2 with ⟨rfl, h0⟩ | ⟨g, cap, cur, rfl, _⟩
  · exact ⟨none, 0, by rw [h0], fun h => by omega⟩
  · exact ⟨_, _, rfl, fun _ => ⟨g, rfl⟩⟩
theorem mid_blk {b : Nat} {test : Int} {pv0 : Value} {vs : List Value} {u : Value} {w1 w3 : World} (h0 : CBk w1 b (combRaw test pv0)) (ho : w1.ownsRow (b + 1) 109 1 pv0 vs.length vs)
    (hg : (w1.alloc (.cells #[u] 109)).grownBy w3 pv0.ownBlock) : CBk w3 b (combRaw test pv0) := by
  have hb : b < w1.heap.size := (Array.getElem?_eq_some_iff.1 h0).1
  have hba : Below w1.heap.size w1 (w1.alloc (.cells #[u] 109)) := (Below.refl _ _).alloc (Nat.le_refl _) _
  exact ((hg.block b (by simp; omega) (fun e => cbk_ne h0 ho e.symm)).trans (hba.block b hb)).trans h0
theorem Mid.mk' {b : Nat} {test : Int} {pv0 pv : Value} {vs : List Value} {u : Value} {w1 w3 : World} (h0 : CBk w1 b (combRaw test pv0)) (ho : w1.ownsRow (b + 1) 109 1 pv0 vs.length vs)
    (hrow : w3.ownsRow (b + 1) 109 1 pv (vs.length + 1) (vs ++ [u])) (hg : (w1.alloc (.cells #[u] 109)).grownBy w3 pv0.ownBlock) (hat : pv.ownBlock = pv0.ownBlock ∨ pv.ownBlock = some (w1.alloc (.cells #[u] 109)).heap.size) :
    Mid b test pv0 pv (vs ++ [u]) w1 (w3.setCell ⟨b, 10, none⟩ pv) := by
  have hb : b < w1.heap.size := (Array.getElem?_eq_some_iff.1 h0).1
  have hba : Below w1.heap.size w1 (w1.alloc (.cells #[u] 109)) := (Below.refl _ _).alloc (Nat.le_refl _) _
  have hka : ∀ k, k < w1.heap.size → some k ≠ pv0.ownBlock → w3.heap[k]? = w1.heap[k]? := fun k hk hne => (hg.block k (by simp; omega) hne).trans (hba.block k hk)
  have hne0 : pv0.ownBlock ≠ some b := cbk_ne h0 ho
  have hb3 : CBk w3 b (combRaw test pv0) := (hka b hb (fun e => hne0 e.symm)).trans h0
  have hne3 := cbk_ne hb3 hrow
  refine ⟨hb3.parts pv, ?_, ?_, hg.os, hg.tape, hg.output, ?_, ?_⟩
  · rw [List.length_append]
    exact hrow.kept (row := some b) ⟨rfl, rfl, rfl, by simp [World.setCell], fun k _ hk => Below.heap_setCell _ _ _ _ (fun e => hk (by simp [e]))⟩ (Or.inr hne3)
  · have := hg.size; simp [World.setCell] at this ⊢; omega
  · intro k hk hkb hne
    rw [Below.heap_setCell _ _ _ _ (show k ≠ b from hkb)]
    exact hka k hk hne
  · intro g hgg
    rcases hat with h | h
    · exact Or.inl (h ▸ hgg)
    · right
      rw [h] at hgg
      cases hgg
      simp

set_option maxRecDepth 10000 in
set_option maxHeartbeats 2000000 in
theorem pcomb1_yes (rb : Nat) (test : Int) (w : World) (P1 : Nat → World → Prop)
    (h1 : ∀ W, W = w.alloc (.cells (combRaw test (.slice none 0 0)).row 436) → Calls Tryz.prog 243 #[.pointer (some ⟨rb, 0, none⟩)] W fun e w' => ∃ b1, e = .returned (.tuple #[.pointer (some ⟨b1, 0, none⟩), .nilIface]) ∧ CBk w' w.heap.size (combRaw test (.slice none 0 0)) ∧ w.heap.size < w'.heap.size ∧ P1 b1 w') :
    Calls Tryz.prog 330 #[.pointer (some ⟨rb, 0, none⟩), .int .i64 test, .int .i64 1] w fun e w' => ∃ b1 w1 pv, e = .returned (.tuple #[.pointer (some ⟨w.heap.size, 0, none⟩), .nilIface]) ∧ P1 b1 w1 ∧
      Mid w.heap.size test (.slice none 0 0) pv [.pointer (some ⟨b1, 0, none⟩)] w1 w' := by
  obtain ⟨i0, hi, hz0, hz1, hz2⟩ := info_parts Tryz.infoPC
  have h1' := h1 _ rfl
  go_enter Tryz.func330, Tryz.ntmps330
  go_wp2
  refine wp_loop_rounds 2 ?_
  rw [rounds_succ]
  go_wp2_with (first
    | (go_at_call 243; refine h1'.mono ?_; rintro e w1 ⟨b1, rfl, hc, hlt, hP⟩; obtain ⟨k0, k1, k2⟩ := hc.at10)
    | (at_builtin; refine wpList_append_own_at _ rfl _ _ 255 rfl (w.heap.size + 1) 109 i0 (.pointer none) 1 8 Tryz.underlying255 hi hz0 hz1 hz2 rfl (by decide) _ _ _ rfl (World.ownsRow_nil _ _ _ _) ⟨w1.heap.size, 0, none⟩ 1 1 [.pointer (some ⟨b1, 0, none⟩)] rfl rfl (cell_one_new w1 _ _) ?ha ?hb ?hc ?hd ?_; (case ha => intro u hu; simp at hu; subst hu; rfl); (case hb => unfold maxLen; omega); (case hc => omega); (case hd => simp; omega); intro pv w3 hrow hg _ hat; have HM := hidR (Mid.mk' (vs := []) hc (World.ownsRow_nil _ _ _ _) hrow hg hat); obtain ⟨q0, q1, q2⟩ := (mid_blk (vs := []) hc (World.ownsRow_nil _ _ _ _) hg).at10; obtain ⟨pa, pc, rfl, _⟩ := row_slice hrow; clear hrow hg hat))
  rw [rounds_succ]
  go_wp2
  go_ret2
  exact ⟨b1, w1, _, rfl, hP, HM.out⟩
end Go.Proofs.YtnpjldffciociaaGreatDoor
namespace Go.Proofs.YtnpjldffciociaaGreatDoor
open Go.RowKit

set_option maxRecDepth 10000 in
set_option maxHeartbeats 2000000 in
theorem pcomb_no (rb : Nat) (test n : Int) (hn : 0 < n) (w : World) (R : Value → World → Prop)
    (h1 : ∀ W, W = w.alloc (.cells (combRaw test (.slice none 0 0)).row 436) → Calls Tryz.prog 243 #[.pointer (some ⟨rb, 0, none⟩)] W fun e w' => ∃ te pe, e = .returned (.tuple #[.pointer none, .iface te pe]) ∧ R (.iface te pe) w') :
    Calls Tryz.prog 330 #[.pointer (some ⟨rb, 0, none⟩), .int .i64 test, .int .i64 n] w fun e w' => ∃ te pe, e = .returned (.tuple #[.pointer none, .iface te pe]) ∧ R (.iface te pe) w' := by
  have h1' := h1 _ rfl
  go_enter Tryz.func330, Tryz.ntmps330
  go_wp2
  refine wp_loop_rounds 1 ?_
  rw [rounds_succ]
  go_wp2_with (go_at_call 243; refine h1'.mono ?_; rintro e w1 ⟨te, pe, rfl, hR⟩)
  go_ret2
  exact ⟨te, pe, rfl, hR⟩

set_option maxRecDepth 10000 in
set_option maxHeartbeats 2000000 in
theorem pcomb2_no (rb : Nat) (test : Int) (w : World) (P1 : Nat → World → Prop) (R : Value → World → Prop)
    (h1 : ∀ W, W = w.alloc (.cells (combRaw test (.slice none 0 0)).row 436) → Calls Tryz.prog 243 #[.pointer (some ⟨rb, 0, none⟩)] W fun e w' => ∃ b1, e = .returned (.tuple #[.pointer (some ⟨b1, 0, none⟩), .nilIface]) ∧ CBk w' w.heap.size (combRaw test (.slice none 0 0)) ∧ w.heap.size < w'.heap.size ∧ P1 b1 w')
    (h2 : ∀ b1 w1 pv W, P1 b1 w1 → Mid w.heap.size test (.slice none 0 0) pv [.pointer (some ⟨b1, 0, none⟩)] w1 W → Calls Tryz.prog 243 #[.pointer (some ⟨rb, 0, none⟩)] W fun e w' => ∃ te pe, e = .returned (.tuple #[.pointer none, .iface te pe]) ∧ R (.iface te pe) w') :
    Calls Tryz.prog 330 #[.pointer (some ⟨rb, 0, none⟩), .int .i64 test, .int .i64 2] w fun e w' => ∃ te pe, e = .returned (.tuple #[.pointer none, .iface te pe]) ∧ R (.iface te pe) w' := by
  obtain ⟨i0, hi, hz0, hz1, hz2⟩ := info_parts Tryz.infoPC
  have h1' := h1 _ rfl
  go_enter Tryz.func330, Tryz.ntmps330
  go_wp2
  refine wp_loop_rounds 2 ?_
  rw [rounds_succ]
  go_wp2_with (first
    | (go_at_call 243; refine h1'.mono ?_; rintro e w1 ⟨b1, rfl, hc, hlt, hP⟩; obtain ⟨k0, k1, k2⟩ := hc.at10)
    | (at_builtin; refine wpList_append_own_at _ rfl _ _ 255 rfl (w.heap.size + 1) 109 i0 (.pointer none) 1 8 Tryz.underlying255 hi hz0 hz1 hz2 rfl (by decide) _ _ _ rfl (World.ownsRow_nil _ _ _ _) ⟨w1.heap.size, 0, none⟩ 1 1 [.pointer (some ⟨b1, 0, none⟩)] rfl rfl (cell_one_new w1 _ _) ?ha ?hb ?hc ?hd ?_; (case ha => intro u hu; simp at hu; subst hu; rfl); (case hb => unfold maxLen; omega); (case hc => omega); (case hd => simp; omega); intro pv w3 hrow hg _ hat; have HM := hidR (Mid.mk' (vs := []) hc (World.ownsRow_nil _ _ _ _) hrow hg hat); obtain ⟨q0, q1, q2⟩ := (mid_blk (vs := []) hc (World.ownsRow_nil _ _ _ _) hg).at10; obtain ⟨pa, pc, rfl, _⟩ := row_slice hrow; clear hrow hg hat))
  have h2' := h2 _ _ _ _ hP HM.out
  rw [rounds_succ]
  go_wp2_with (go_at_call 243; refine h2'.mono ?_; rintro e w4 ⟨te, pe, rfl, hR⟩)
  go_ret2
  exact ⟨te, pe, rfl, hR⟩

set_option maxRecDepth 10000 in
set_option maxHeartbeats 2000000 in
theorem pcomb2_yes (rb : Nat) (test : Int) (w : World) (P1 : Nat → World → Prop) (P2 : Nat → World → Value → World → Nat → World → Prop)
    (h1 : ∀ W, W = w.alloc (.cells (combRaw test (.slice none 0 0)).row 436) → Calls Tryz.prog 243 #[.pointer (some ⟨rb, 0, none⟩)] W fun e w' => ∃ b1, e = .returned (.tuple #[.pointer (some ⟨b1, 0, none⟩), .nilIface]) ∧ CBk w' w.heap.size (combRaw test (.slice none 0 0)) ∧ w.heap.size < w'.heap.size ∧ P1 b1 w')
    (h2 : ∀ b1 w1 pv W, P1 b1 w1 → Mid w.heap.size test (.slice none 0 0) pv [.pointer (some ⟨b1, 0, none⟩)] w1 W → Calls Tryz.prog 243 #[.pointer (some ⟨rb, 0, none⟩)] W fun e w' => ∃ b2, e = .returned (.tuple #[.pointer (some ⟨b2, 0, none⟩), .nilIface]) ∧ CBk w' w.heap.size (combRaw test pv) ∧ w'.ownsRow (w.heap.size + 1) 109 1 pv 1 [.pointer (some ⟨b1, 0, none⟩)] ∧ w.heap.size < w'.heap.size ∧ P2 b1 w1 pv W b2 w') :
    Calls Tryz.prog 330 #[.pointer (some ⟨rb, 0, none⟩), .int .i64 test, .int .i64 2] w fun e w' => ∃ b1 w1 pv W b2 w4 pv2, e = .returned (.tuple #[.pointer (some ⟨w.heap.size, 0, none⟩), .nilIface]) ∧ P1 b1 w1 ∧
      Mid w.heap.size test (.slice none 0 0) pv [.pointer (some ⟨b1, 0, none⟩)] w1 W ∧ P2 b1 w1 pv W b2 w4 ∧ Mid w.heap.size test pv pv2 [.pointer (some ⟨b1, 0, none⟩), .pointer (some ⟨b2, 0, none⟩)] w4 w' := by
  obtain ⟨i0, hi, hz0, hz1, hz2⟩ := info_parts Tryz.infoPC
  have h1' := h1 _ rfl
  go_enter Tryz.func330, Tryz.ntmps330
  go_wp2
  refine wp_loop_rounds 3 ?_
  rw [rounds_succ]
  go_wp2_with (first
    | (go_at_call 243; refine h1'.mono ?_; rintro e w1 ⟨b1, rfl, hc, hlt, hP⟩; obtain ⟨k0, k1, k2⟩ := hc.at10)
    | (at_builtin; refine wpList_append_own_at _ rfl _ _ 255 rfl (w.heap.size + 1) 109 i0 (.pointer none) 1 8 Tryz.underlying255 hi hz0 hz1 hz2 rfl (by decide) _ _ _ rfl (World.ownsRow_nil _ _ _ _) ⟨w1.heap.size, 0, none⟩ 1 1 [.pointer (some ⟨b1, 0, none⟩)] rfl rfl (cell_one_new w1 _ _) ?ha ?hb ?hc ?hd ?_; (case ha => intro u hu; simp at hu; subst hu; rfl); (case hb => unfold maxLen; omega); (case hc => omega); (case hd => simp; omega); intro pv w3 hrow hg _ hat; have HM := hidR (Mid.mk' (vs := []) hc (World.ownsRow_nil _ _ _ _) hrow hg hat); obtain ⟨q0, q1, q2⟩ := (mid_blk (vs := []) hc (World.ownsRow_nil _ _ _ _) hg).at10; obtain ⟨pa, pc, rfl, _⟩ := row_slice hrow; clear hrow hg hat))
  have h2' := h2 _ _ _ _ hP HM.out
  clear k0 k1 k2 q0 q1 q2 hc hlt h1'
  rw [rounds_succ]
  go_wp2_with (first
    | (go_at_call 243; refine h2'.mono ?_; rintro e w4 ⟨b2, rfl, hc4, ho4, hlt4, hP2⟩; obtain ⟨k0, k1, k2⟩ := hc4.at10)
    | (at_builtin; refine wpList_append_own_at _ rfl _ _ 255 rfl (w.heap.size + 1) 109 i0 (.pointer none) 1 8 Tryz.underlying255 hi hz0 hz1 hz2 rfl (by decide) _ _ _ rfl (ho4.alloc _) ⟨w4.heap.size, 0, none⟩ 1 1 [.pointer (some ⟨b2, 0, none⟩)] rfl rfl (cell_one_new w4 _ _) ?ha ?hb ?hc ?hd ?_; (case ha => intro u hu; simp at hu; subst hu; rfl); (case hb => unfold maxLen; omega); (case hc => omega); (case hd => simp; omega); intro pv2 w5 hrow5 hg5 _ hat5; have HM5 := hidR (Mid.mk' (vs := [.pointer (some ⟨b1, 0, none⟩)]) hc4 ho4 hrow5 hg5 hat5); obtain ⟨q0, q1, q2⟩ := (mid_blk (vs := [.pointer (some ⟨b1, 0, none⟩)]) hc4 ho4 hg5).at10; obtain ⟨pa2, pc2, rfl, _⟩ := row_slice hrow5; clear hrow5 hg5 hat5))
  rw [rounds_succ]
  go_wp2
  go_ret2
  exact ⟨b1, w1, _, _, b2, w4, _, rfl, hP, HM.out, hP2, HM5.out⟩
end Go.Proofs.YtnpjldffciociaaGreatDoor
