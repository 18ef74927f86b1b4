import Derived.Test.YtiekijfmafklfaaGreatDoorProgS
namespace Go.Proofs.YtiekijfmafklfaaGreatDoor
open Go.RowKit

/-- A condition without parts, newly made. -/
theorem CAns.new {w0 w w1 w2 : World} {vs vw : Value} {ws : List (List UInt8)} {j : Nat} {errno : Int} {rule : Bool} (hX : RX w0 w1 vs vw ws j errno rule) (hS : Stp w0.heap.size w w1) (hb : Below w1.heap.size w1 w2) (r : Raw) (c : Cnd)
    (hc : ∀ hi W lo b, lo ≤ b → b < hi → CBk W b r → CndAt hi W c lo b) :
    CAns w0 w vs vw ws errno rule (some (c, j)) (.returned (.tuple #[.pointer (some ⟨w2.heap.size, 0, none⟩), .nilIface])) (w2.alloc (.cells r.row 200)) := by
  have hba : Below w2.heap.size w2 (w2.alloc (.cells r.row 200)) := (Below.refl _ _).alloc (Nat.le_refl _) _
  refine ⟨⟨_, rfl, hc _ _ _ _ ?_ (by simp) (heap_alloc_new w2 _), (hX.below hb).below hba⟩, (hS.trans (Stp.of_below hb)).trans (Stp.of_below hba)⟩
  exact Nat.le_trans hS.size hb.size
theorem CAns.err {w0 w w1 w2 : World} {vs vw : Value} {ws : List (List UInt8)} {errno : Int} {rule : Bool} {te : TypeId} {pe : Value} (hE : Err w1 errno (.iface te pe)) (hS : Stp w0.heap.size w w1) (hb : Below w1.heap.size w1 w2) :
    CAns w0 w vs vw ws errno rule none (.returned (.tuple #[.pointer none, .iface te pe])) w2 := ⟨⟨te, pe, rfl, hE.kept hb⟩, hS.trans (Stp.of_below hb)⟩

def equalR (ws : List (List UInt8)) (i : Nat) : Option (Cnd × Nat) :=
  match colRaw (wordAt ws i) with
  | none => none
  | some a => match vomR (wordAt ws (i + 1)) with
    | none => none
    | some b => some (.val a b, i + 2)
theorem xequal (w0 w : World) (vs vw : Value) (ws : List (List UInt8)) (taken : Nat) (errno : Int) (rule : Bool) (h : RX w0 w vs vw ws taken errno rule) (ht : taken ≤ 16777215) (hg : Glob w0) :
    Calls Tryz.prog 122 #[.pointer (some ⟨w0.heap.size, 0, none⟩)] w fun e w' => CAns w0 w vs vw ws errno rule (equalR ws taken) e w' := by
  have h1 := xcolumn w0 w vs vw ws taken errno rule h (by omega)
  unfold equalR
  cases hc : colRaw (wordAt ws taken) with
  | none =>
    rw [hc] at h1
    refine (pequal_col _ w (fun v w' => Err w' errno v ∧ Stp w0.heap.size w w') (h1.mono ?_)).mono ?_
    · rintro e w' ⟨⟨te, pe, rfl, hE⟩, hX, hS⟩
      exact ⟨te, pe, rfl, hE, hS⟩
    · rintro e w' ⟨te, pe, rfl, hE, hS⟩
      exact CAns.err hE hS (Below.refl _ _)
  | some a =>
    rw [hc] at h1
    have h2 := fun w1 (hP : RX w0 w1 vs vw ws (taken + 1) errno rule ∧ Stp w0.heap.size w w1) => xvom w0 w1 vs vw ws (taken + 1) errno rule hP.1 (by omega) hg
    cases hv : vomR (wordAt ws (taken + 1)) with
    | none =>
      rw [hv] at h2
      refine (pequal_val _ a w (fun w1 => RX w0 w1 vs vw ws (taken + 1) errno rule ∧ Stp w0.heap.size w w1) (fun v w' => Err w' errno v ∧ Stp w0.heap.size w w') h1 fun w1 hP => (h2 w1 hP).mono ?_).mono ?_
      · rintro e w' ⟨⟨te, pe, rfl, hE⟩, hS⟩
        exact ⟨te, pe, rfl, hE, hP.2.trans hS⟩
      · rintro e w' ⟨te, pe, w1, rfl, ⟨hE, hS⟩, hb⟩
        exact CAns.err hE hS hb
    | some b =>
      rw [hv] at h2
      refine (pequal_yes _ a (tnum b) w (fun w1 => RX w0 w1 vs vw ws (taken + 1) errno rule ∧ Stp w0.heap.size w w1) (fun w' => RX w0 w' vs vw ws (taken + 2) errno rule ∧ Stp w0.heap.size w w') h1 fun w1 hP => (h2 w1 hP).mono ?_).mono ?_
      · rintro e w' ⟨⟨⟨n, S, me, rfl⟩, hX⟩, hS⟩
        exact ⟨⟨n, S, me, rfl⟩, hX, hP.2.trans hS⟩
      · rintro e w' ⟨w1, w2, n, S, me, ⟨hX, hS⟩, hb, rfl, rfl⟩
        exact CAns.new hX hS hb _ _ fun hi W lo b' h1 h2 hr => ⟨h1, h2, _, hr, Or.inl rfl, rfl, rfl, rfl⟩

def sameR (ws : List (List UInt8)) (i : Nat) : Option (Cnd × Nat) :=
  match colRaw (wordAt ws i) with
  | none => none
  | some a => match colRaw (wordAt ws (i + 1)) with
    | none => none
    | some b => some (.same a b, i + 2)
theorem xsame (w0 w : World) (vs vw : Value) (ws : List (List UInt8)) (taken : Nat) (errno : Int) (rule : Bool) (h : RX w0 w vs vw ws taken errno rule) (ht : taken ≤ 16777215) :
    Calls Tryz.prog 124 #[.pointer (some ⟨w0.heap.size, 0, none⟩)] w fun e w' => CAns w0 w vs vw ws errno rule (sameR ws taken) e w' := by
  have h2 := xtwo w0 w vs vw ws taken errno rule h ht
  have hno : (colRaw (wordAt ws taken) = none ∨ colRaw (wordAt ws (taken + 1)) = none) → Calls Tryz.prog 124 #[.pointer (some ⟨w0.heap.size, 0, none⟩)] w fun e w' => CAns w0 w vs vw ws errno rule none e w' := by
    intro hn
    refine (psame_no _ w (fun v w' => Err w' errno v ∧ Stp w0.heap.size w w') (h2.mono ?_)).mono ?_
    · rintro e w' ⟨hA, hX, hS⟩
      rcases hA with ⟨c, d, hc, hd, _⟩ | ⟨_, a, b, te, pe, rfl, hE⟩
      · rcases hn with hn | hn
        · rw [hn] at hc; cases hc
        · rw [hn] at hd; cases hd
      · exact ⟨a, b, te, pe, rfl, hE, hS⟩
    · rintro e w' ⟨te, pe, rfl, hE, hS⟩
      exact CAns.err hE hS (Below.refl _ _)
  unfold sameR
  cases hc : colRaw (wordAt ws taken) with
  | none => exact hno (Or.inl hc)
  | some a =>
    cases hd : colRaw (wordAt ws (taken + 1)) with
    | none => exact hno (Or.inr hd)
    | some b =>
      rw [hc, hd] at h2
      refine (psame_yes _ a b w (fun w' => RX w0 w' vs vw ws (taken + 2) errno rule ∧ Stp w0.heap.size w w') (h2.mono ?_)).mono ?_
      · rintro e w' ⟨hA, hX, hS⟩
        rcases hA with ⟨c, d, hc', hd', rfl⟩ | ⟨hn, _⟩
        · cases hc'; cases hd'
          exact ⟨rfl, by simpa using hX, hS⟩
        · simp at hn
      · rintro e w' ⟨w1, ⟨hX, hS⟩, rfl, rfl⟩
        exact CAns.new hX hS (Below.refl _ _) _ _ fun hi W lo b' h1 h2 hr => ⟨h1, h2, _, hr, rfl, rfl, rfl, rfl⟩

set_option maxRecDepth 10000 in
set_option maxHeartbeats 1000000 in
theorem pless_col (rb : Nat) (w : World) (P : Value → World → Prop)
    (h1 : Calls Tryz.prog 88 #[.pointer (some ⟨rb, 0, none⟩)] w fun e w' => ∃ te pe, e = .returned (.tuple #[.int .i64 0, .iface te pe]) ∧ P (.iface te pe) w') :
    Calls Tryz.prog 123 #[.pointer (some ⟨rb, 0, none⟩)] w fun e w' => ∃ te pe, e = .returned (.tuple #[.pointer none, .iface te pe]) ∧ P (.iface te pe) w' := by
  go_enter Tryz.func123, Tryz.ntmps123
  go_wp2_with (go_at_call 88; refine h1.mono ?_; rintro e w1 ⟨te, pe, rfl, hP⟩)
  go_ret2
  exact ⟨te, pe, rfl, hP⟩
set_option maxRecDepth 10000 in
set_option maxHeartbeats 1000000 in
theorem pless_val (rb a : Nat) (x : List UInt8) (w : World) (P P2 : World → Prop) (Q : Value → World → Prop)
    (h1 : Calls Tryz.prog 88 #[.pointer (some ⟨rb, 0, none⟩)] w fun e w' => e = .returned (.tuple #[.int .i64 a, .nilIface]) ∧ P w')
    (hw : ∀ w1, P w1 → Calls Tryz.prog 57 #[.pointer (some ⟨rb, 0, none⟩)] w1 fun e w' => e = .returned (.string (bs x)) ∧ P2 w')
    (h2 : ∀ w1, P2 w1 → Calls Tryz.prog 89 #[.pointer (some ⟨rb, 0, none⟩), .string (bs x)] w1 fun e w' => ∃ te pe, e = .returned (.tuple #[.agg #[.int .i64 0, .int .i64 0, .string ⟨#[]⟩], .iface te pe]) ∧ Q (.iface te pe) w') :
    Calls Tryz.prog 123 #[.pointer (some ⟨rb, 0, none⟩)] w fun e w' => ∃ te pe w1, e = .returned (.tuple #[.pointer none, .iface te pe]) ∧ Q (.iface te pe) w1 ∧ Below w1.heap.size w1 w' := by
  go_enter Tryz.func123, Tryz.ntmps123
  go_wp2_with (first
    | (go_at_call 88; refine h1.mono ?_; rintro e w1 ⟨rfl, hP⟩)
    | (go_at_call 57; refine (hw _ hP).mono ?_; rintro e w2 ⟨rfl, hP2⟩)
    | (go_at_call 89; refine (h2 _ hP2).mono ?_; rintro e w3 ⟨te, pe, rfl, hQ⟩))
  go_ret2
  exact ⟨te, pe, w3, rfl, hQ, (Below.refl _ _).alloc (Nat.le_refl _) _⟩
set_option maxRecDepth 10000 in
set_option maxHeartbeats 1000000 in
theorem pless_yes (rb a : Nat) (x : List UInt8) (w : World) (P P2 Q : World → Prop)
    (h1 : Calls Tryz.prog 88 #[.pointer (some ⟨rb, 0, none⟩)] w fun e w' => e = .returned (.tuple #[.int .i64 a, .nilIface]) ∧ P w')
    (hw : ∀ w1, P w1 → Calls Tryz.prog 57 #[.pointer (some ⟨rb, 0, none⟩)] w1 fun e w' => e = .returned (.string (bs x)) ∧ P2 w')
    (h2 : ∀ w1, P2 w1 → Calls Tryz.prog 89 #[.pointer (some ⟨rb, 0, none⟩), .string (bs x)] w1 fun e w' => (∃ n S, e = .returned (.tuple #[.agg #[.int .i64 1, .int .i64 n, .string S], .nilIface])) ∧ Q w') :
    Calls Tryz.prog 123 #[.pointer (some ⟨rb, 0, none⟩)] w fun e w' => ∃ w1 w2 n S, Q w1 ∧ Below w1.heap.size w1 w2 ∧ e = .returned (.tuple #[.pointer (some ⟨w2.heap.size, 0, none⟩), .nilIface]) ∧
      w' = w2.alloc (.cells (leafRaw 2 a 1 n S false).row 200) := by
  go_enter Tryz.func123, Tryz.ntmps123
  go_wp2_with (first
    | (go_at_call 88; refine h1.mono ?_; rintro e w1 ⟨rfl, hP⟩)
    | (go_at_call 57; refine (hw _ hP).mono ?_; rintro e w2 ⟨rfl, hP2⟩)
    | (go_at_call 89; refine (h2 _ hP2).mono ?_; rintro e w3 ⟨⟨n, S, rfl⟩, hQ⟩))
  go_ret2
  exact ⟨w3, w3.alloc (.cells #[.int .i64 1, .int .i64 n, .string S] 163), n, S, hQ, (Below.refl _ _).alloc (Nat.le_refl _) _, by simp, rfl⟩
set_option maxRecDepth 10000 in
set_option maxHeartbeats 1000000 in
theorem pless_text (rb a : Nat) (x : List UInt8) (w : World) (P P2 Q : World → Prop) (R : Value → World → Prop)
    (h1 : Calls Tryz.prog 88 #[.pointer (some ⟨rb, 0, none⟩)] w fun e w' => e = .returned (.tuple #[.int .i64 a, .nilIface]) ∧ P w')
    (hw : ∀ w1, P w1 → Calls Tryz.prog 57 #[.pointer (some ⟨rb, 0, none⟩)] w1 fun e w' => e = .returned (.string (bs x)) ∧ P2 w')
    (h2 : ∀ w1, P2 w1 → Calls Tryz.prog 89 #[.pointer (some ⟨rb, 0, none⟩), .string (bs x)] w1 fun e w' => (∃ n S, e = .returned (.tuple #[.agg #[.int .i64 2, .int .i64 n, .string S], .nilIface])) ∧ Q w')
    (h3 : ∀ w1 w2 s, Q w1 → Below w1.heap.size w1 w2 → Calls Tryz.prog 60 #[.pointer (some ⟨rb, 0, none⟩), .string s] w2 fun e w' => ∃ te pe, e = .returned (.iface te pe) ∧ R (.iface te pe) w') :
    Calls Tryz.prog 123 #[.pointer (some ⟨rb, 0, none⟩)] w fun e w' => ∃ te pe, e = .returned (.tuple #[.pointer none, .iface te pe]) ∧ R (.iface te pe) w' := by
  go_enter Tryz.func123, Tryz.ntmps123
  go_wp2_with (first
    | (go_at_call 88; refine h1.mono ?_; rintro e w1 ⟨rfl, hP⟩)
    | (go_at_call 57; refine (hw _ hP).mono ?_; rintro e w2 ⟨rfl, hP2⟩)
    | (go_at_call 89; refine (h2 _ hP2).mono ?_; rintro e w3 ⟨⟨n, S, rfl⟩, hQ⟩)
    | (go_at_call 60; refine (h3 _ _ _ hQ ?hb).mono ?_; (case hb => exact (Below.refl _ _).alloc (Nat.le_refl _) _); rintro e w4 ⟨te, pe, rfl, hR⟩))
  go_ret2
  exact ⟨te, pe, rfl, hR⟩
end Go.Proofs.YtiekijfmafklfaaGreatDoor
