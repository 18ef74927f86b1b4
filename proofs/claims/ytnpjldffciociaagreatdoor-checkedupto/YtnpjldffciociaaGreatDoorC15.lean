import Derived.Test.YtnpjldffciociaaGreatDoorC14
namespace Go.Proofs.YtnpjldffciociaaGreatDoor
open Go.RowKit

theorem tnum_map (xs : List Bool) : xs.map tcode = (xs.map tnum).map iv := by rw [List.map_map]; rfl
theorem tnum_map_eq (xs ys : List Bool) : (xs.map tnum == ys.map tnum) = decide (xs = ys) := by
  by_cases h : xs = ys
  · subst h; simp
  · rw [decide_eq_false h, beq_eq_false_iff_ne]
    intro e
    apply h
    have hinj : ∀ a b : Bool, tnum a = tnum b → a = b := by intro a b; cases a <;> cases b <;> simp [tnum]
    exact List.map_inj_right (fun a b => hinj a b) |>.1 e

/-- both VIEW VIEW. -/
theorem xboth (w0 w : World) (vs vw : Value) (ws : List (List UInt8)) (taken : Nat) (errno : Int) (rule : Bool) (V : Nat → Option (List Bool × Nat)) (h : RX w0 w vs vw ws taken errno rule) (htk : taken ≤ ws.length)
    (hV : ∀ w1 i, taken ≤ i → i ≤ ws.length → RX w0 w1 vs vw ws i errno rule → Calls Tryz.prog 99 #[.pointer (some ⟨w0.heap.size, 0, none⟩)] w1 fun e w' => WAns w0 w1 vs vw ws errno rule (V i) e w')
    (hVl : ∀ i xs j, V i = some (xs, j) → i < j ∧ j ≤ ws.length) (hV9 : ∀ i xs j, V i = some (xs, j) → xs.length ≤ 9) :
    Calls Tryz.prog 202 #[.pointer (some ⟨w0.heap.size, 0, none⟩)] w fun e w' => OpAns w0 w vs vw ws errno rule (match twoV V taken with
      | none => none
      | some (a, b, j) => if a = b then some (a, j) else none) e w' := by
  have h1 := xtwoV w0 w vs vw ws taken errno rule V h htk hV hVl
  cases ht : twoV V taken with
  | none =>
    rw [ht] at h1
    refine (pboth_no _ w (fun v w' => Err w' errno v ∧ Stp w0.heap.size w w') (h1.mono ?_)).mono ?_
    · rintro e w' ⟨⟨p, q, te, pe, rfl, hE⟩, hS⟩; exact ⟨p, q, te, pe, rfl, hE, hS⟩
    · rintro e w' ⟨te, pe, rfl, hE, hS⟩
      exact OpAns.err hE hS (Below.refl _ _)
  | some p =>
    obtain ⟨a, c, j⟩ := p
    rw [ht] at h1
    have hl9 : a.length ≤ 9 ∧ c.length ≤ 9 := by
      unfold twoV at ht
      split at ht
      · cases ht
      · rename_i hv1
        split at ht
        · cases ht
        · rename_i hv2
          cases ht
          exact ⟨hV9 _ _ _ hv1, hV9 _ _ _ hv2⟩
    have heq : ∀ t1 t2 w1, TyAt w0.heap.size w1 t1 a → TyAt w0.heap.size w1 t2 c → Calls Tryz.prog 250 #[t1, t2] w1 fun e w' => e = .returned (.bool (decide (a = c))) ∧ ∃ n, w' = w1.drewN n := by
      intro t1 t2 w1 q1 q2
      have := pSlEqual t1 t2 (a.map tnum) (c.map tnum) w1 (by rw [← tnum_map]; exact q1.reads) (by rw [← tnum_map]; exact q2.reads) (by simp; omega) (by simp; omega)
      rwa [tnum_map_eq] at this
    simp only
    by_cases hac : a = c
    · rw [if_pos hac]
      rw [decide_eq_true hac] at heq
      refine (pboth_yes _ w (fun b1 b2 t1 t2 w' => TyAt w0.heap.size w' t1 a ∧ TyAt w0.heap.size w' t2 c ∧ RX w0 w' vs vw ws j errno rule ∧ Stp w0.heap.size w w' ∧ b1 < w'.heap.size ∧ w'.cell? ⟨b1, 6, none⟩ = some t1)
        (fun tv w' => TyAt w0.heap.size w' tv a ∧ RX w0 w' vs vw ws j errno rule ∧ Stp w0.heap.size w w') ?_ (h1.mono ?_) fun b1 b2 t1 t2 w1 hP => (heq t1 t2 w1 hP.1 hP.2.1).mono ?_).mono ?_
      · rintro b1 b2 t1 t2 w1 ⟨q1, q2, hX, hS, hb, hc⟩
        have hd : Below w1.heap.size w1 w1.drew := (Below.refl _ _).drew
        exact ⟨q1.below hd, q2.below hd, hX.below hd, hS.trans (Stp.of_below hd), hb, hc⟩
      · rintro e w' ⟨⟨b1, b2, rfl, ⟨t1, ne1, c1, q1⟩, ⟨t2, ne2, c2, q2⟩, hX⟩, hS⟩
        obtain ⟨ta1, tc1, rfl⟩ := q1.slice
        obtain ⟨ta2, tc2, rfl⟩ := q2.slice
        exact ⟨b1, b2, _, _, _, _, _, _, rfl, c1, c2, q1, q2, hX, hS, World.block_lt_of_cell? w' _ c1, c1⟩
      · rintro e w' ⟨rfl, n, rfl⟩
        have hd : Below w1.heap.size w1 (w1.drewN n) := belowN (Below.refl _ _) n
        exact ⟨rfl, hP.2.2.2.2.1, hP.2.2.2.2.2, hP.1.below hd, hP.2.2.1.below hd, hP.2.2.2.1.trans (Stp.of_below hd)⟩
      · rintro e w' ⟨tv, w3, ⟨q1, hX, hS⟩, hN⟩
        exact OpAns.new hX hS q1 hN
    · rw [if_neg hac]
      rw [decide_eq_false hac] at heq
      refine (pboth_ne _ w (fun v w' => Err w' errno v ∧ Stp w0.heap.size w w') (fun t1 t2 w' => TyAt w0.heap.size w' t1 a ∧ TyAt w0.heap.size w' t2 c ∧ RX w0 w' vs vw ws j errno rule ∧ Stp w0.heap.size w w')
        (fun w' => RX w0 w' vs vw ws j errno rule ∧ Stp w0.heap.size w w') ?_ (h1.mono ?_) (fun t1 t2 w1 hP => (heq t1 t2 w1 hP.1 hP.2.1).mono ?_) fun w1 s hP => (pfault_any w1 w0.heap.size errno s hP.1.rd.c3).mono ?_).mono ?_
      · rintro t1 t2 w1 ⟨q1, q2, hX, hS⟩
        have hd : Below w1.heap.size w1 w1.drew := (Below.refl _ _).drew
        exact ⟨q1.below hd, q2.below hd, hX.below hd, hS.trans (Stp.of_below hd)⟩
      · rintro e w' ⟨⟨b1, b2, rfl, ⟨t1, ne1, c1, q1⟩, ⟨t2, ne2, c2, q2⟩, hX⟩, hS⟩
        obtain ⟨ta1, tc1, rfl⟩ := q1.slice
        obtain ⟨ta2, tc2, rfl⟩ := q2.slice
        exact ⟨b1, b2, _, _, _, _, _, _, rfl, c1, c2, q1, q2, hX, hS⟩
      · rintro e w' ⟨rfl, n, rfl⟩
        have hd : Below w1.heap.size w1 (w1.drewN n) := belowN (Below.refl _ _) n
        exact ⟨rfl, hP.2.2.1.below hd, hP.2.2.2.trans (Stp.of_below hd)⟩
      · rintro e w' ⟨rfl, rfl⟩
        exact ⟨_, _, rfl, Err.new _ _ _, hP.2.trans (Stp.of_below ((Below.refl _ _).alloc (Nat.le_refl _) _))⟩
      · rintro e w' ⟨te, pe, rfl, hE, hS⟩
        exact OpAns.err hE hS (Below.refl _ _)

set_option maxRecDepth 10000 in
set_option maxHeartbeats 1000000 in
theorem pjoin_cols (rb : Nat) (w : World) (R : Value → World → Prop)
    (h1 : Calls Tryz.prog 246 #[.pointer (some ⟨rb, 0, none⟩)] w fun e w' => ∃ (a b : Int) (te : TypeId) (pe : Value), e = .returned (.tuple #[.int .i64 a, .int .i64 b, .iface te pe]) ∧ R (.iface te pe) w') :
    Calls Tryz.prog 201 #[.pointer (some ⟨rb, 0, none⟩)] w fun e w' => ∃ te pe, e = .returned (.tuple #[.pointer none, .iface te pe]) ∧ R (.iface te pe) w' := by
  go_enter Tryz.func201, Tryz.ntmps201
  go_wp2_with (go_at_call 246; refine h1.mono ?_; rintro e w1 ⟨a, b, te, pe, rfl, hR⟩)
  go_ret2
  exact ⟨te, pe, rfl, hR⟩
set_option maxRecDepth 10000 in
set_option maxHeartbeats 1000000 in
theorem pjoin_views (rb c d : Nat) (w : World) (P : World → Prop) (R : Value → World → Prop)
    (h1 : Calls Tryz.prog 246 #[.pointer (some ⟨rb, 0, none⟩)] w fun e w' => e = .returned (.tuple #[.int .i64 c, .int .i64 d, .nilIface]) ∧ P w')
    (h2 : ∀ w1, P w1 → Calls Tryz.prog 247 #[.pointer (some ⟨rb, 0, none⟩)] w1 fun e w' => ∃ p q te pe, e = .returned (.tuple #[.pointer p, .pointer q, .iface te pe]) ∧ R (.iface te pe) w') :
    Calls Tryz.prog 201 #[.pointer (some ⟨rb, 0, none⟩)] w fun e w' => ∃ te pe, e = .returned (.tuple #[.pointer none, .iface te pe]) ∧ R (.iface te pe) w' := by
  go_enter Tryz.func201, Tryz.ntmps201
  go_wp2_with (first
    | (go_at_call 246; refine h1.mono ?_; rintro e w1 ⟨rfl, hP⟩)
    | (go_at_call 247; refine (h2 _ hP).mono ?_; rintro e w2 ⟨p, q, te, pe, rfl, hR⟩))
  go_ret2
  exact ⟨te, pe, rfl, hR⟩
set_option maxRecDepth 10000 in
set_option maxHeartbeats 1000000 in
theorem pjoin_ne (rb c d : Nat) (w : World) (P : World → Prop) (R : Value → World → Prop) (P1 : Value → Value → World → Prop) (hd : ∀ t1 t2 w1, P1 t1 t2 w1 → P1 t1 t2 w1.drew)
    (h1 : Calls Tryz.prog 246 #[.pointer (some ⟨rb, 0, none⟩)] w fun e w' => e = .returned (.tuple #[.int .i64 c, .int .i64 d, .nilIface]) ∧ P w')
    (h2 : ∀ w1, P w1 → Calls Tryz.prog 247 #[.pointer (some ⟨rb, 0, none⟩)] w1 fun e w' => ∃ b1 b2 ta1 tn1 tc1 ta2 tn2 tc2, e = .returned (.tuple #[.pointer (some ⟨b1, 0, none⟩), .pointer (some ⟨b2, 0, none⟩), .nilIface]) ∧ w'.cell? ⟨b1, 6, none⟩ = some (.slice ta1 tn1 tc1) ∧ w'.cell? ⟨b2, 6, none⟩ = some (.slice ta2 tn2 tc2) ∧ P1 (.slice ta1 tn1 tc1) (.slice ta2 tn2 tc2) w')
    (h3 : ∀ t1 t2 w1, P1 t1 t2 w1 → Calls Tryz.prog 248 #[t1, .int .i64 c, t2, .int .i64 d] w1 fun e w' => e = .returned (.bool false) ∧ w' = w1)
    (h4 : ∀ t1 t2 w1 s, P1 t1 t2 w1 → Calls Tryz.prog 98 #[.pointer (some ⟨rb, 0, none⟩), .string s] w1 fun e w' => ∃ te pe, e = .returned (.iface te pe) ∧ R (.iface te pe) w') :
    Calls Tryz.prog 201 #[.pointer (some ⟨rb, 0, none⟩)] w fun e w' => ∃ te pe, e = .returned (.tuple #[.pointer none, .iface te pe]) ∧ R (.iface te pe) w' := by
  go_enter Tryz.func201, Tryz.ntmps201
  go_wp2_with (first
    | (go_at_call 246; refine h1.mono ?_; rintro e w1 ⟨rfl, hP⟩)
    | (go_at_call 247; refine (h2 _ hP).mono ?_; rintro e w2 ⟨b1, b2, ta1, tn1, tc1, ta2, tn2, tc2, rfl, k1, k2, hP1⟩))
  have hP1' := hd _ _ _ hP1
  go_region_with (go_at_call 248; refine (h3 _ _ _ hP1').mono ?_; rintro e w3 ⟨rfl, hw⟩; obtain rfl := hw.symm)
  all_goals go_wp2_with (go_at_call 98; refine (h4 _ _ _ _ hP1').mono ?_; rintro e w3 ⟨te, pe, rfl, hR⟩)
  all_goals go_ret2
  all_goals exact ⟨te, pe, rfl, hR⟩
end Go.Proofs.YtnpjldffciociaaGreatDoor
