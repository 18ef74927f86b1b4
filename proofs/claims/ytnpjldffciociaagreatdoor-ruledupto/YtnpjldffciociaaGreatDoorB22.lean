import Derived.Test.YtnpjldffciociaaGreatDoorB21
namespace Go.Proofs.YtnpjldffciociaaGreatDoor
open Go.RowKit

/-- A condition without parts, newly made. -/
theorem CAns.new {w0 w w1 w2 : World} {vs vw : Value} {ws : List (List UInt8)} {j : Nat} {errno : Int} {rule : Bool} (hX : RX w0 w1 vs vw ws j errno rule) (hS : Stp w0.heap.size w w1) (hb : Below w1.heap.size w1 w2) (r : Raw) (c : Cnd)
    (hc : ∀ hi W lo b, lo ≤ b → b < hi → CBk W b r → CndAt hi W c lo b) :
    CAns w0 w vs vw ws errno rule (some (c, j)) (.returned (.tuple #[.pointer (some ⟨w2.heap.size, 0, none⟩), .nilIface])) (w2.alloc (.cells r.row 436)) := by
  have hba : Below w2.heap.size w2 (w2.alloc (.cells r.row 436)) := (Below.refl _ _).alloc (Nat.le_refl _) _
  refine ⟨⟨_, rfl, hc _ _ _ _ ?_ (by simp) (heap_alloc_new w2 _), (hX.below hb).below hba⟩, (hS.trans (Stp.of_below hb)).trans (Stp.of_below hba)⟩
  exact Nat.le_trans hS.size hb.size
theorem CAns.err {w0 w w1 w2 : World} {vs vw : Value} {ws : List (List UInt8)} {errno : Int} {rule : Bool} {te : TypeId} {pe : Value} (hE : Err w1 errno (.iface te pe)) (hS : Stp w0.heap.size w w1) (hb : Below w1.heap.size w1 w2) :
    CAns w0 w vs vw ws errno rule none (.returned (.tuple #[.pointer none, .iface te pe])) w2 := ⟨⟨te, pe, rfl, hE.kept hb⟩, hS.trans (Stp.of_below hb)⟩

def equalR (ws : List (List UInt8)) (i : Nat) : Option (Cnd × Nat) :=
  match colRaw (wordAt ws i) with
  | none => none
  | some a => match vomR (wordAt ws (i + 1)) with
    | none => none
    | some b => some (.val a b, i + 2)
theorem xequal (w0 w : World) (vs vw : Value) (ws : List (List UInt8)) (taken : Nat) (errno : Int) (rule : Bool) (h : RX w0 w vs vw ws taken errno rule) (ht : taken ≤ 16777215) (hg : Glob w0) :
    Calls Tryz.prog 327 #[.pointer (some ⟨w0.heap.size, 0, none⟩)] w fun e w' => CAns w0 w vs vw ws errno rule (equalR ws taken) e w' := by
  have h1 := xcolumn w0 w vs vw ws taken errno rule h (by omega)
  unfold equalR
  cases hc : colRaw (wordAt ws taken) with
  | none =>
    rw [hc] at h1
    refine (pequal_col _ w (fun v w' => Err w' errno v ∧ Stp w0.heap.size w w') (h1.mono ?_)).mono ?_
    · rintro e w' ⟨⟨te, pe, rfl, hE⟩, hX, hS⟩
      exact ⟨te, pe, rfl, hE, hS⟩
    · rintro e w' ⟨te, pe, rfl, hE, hS⟩
      exact CAns.err hE hS (Below.refl _ _)
  | some a =>
    rw [hc] at h1
    have h2 := fun w1 (hP : RX w0 w1 vs vw ws (taken + 1) errno rule ∧ Stp w0.heap.size w w1) => xvom w0 w1 vs vw ws (taken + 1) errno rule hP.1 (by omega) hg
    cases hv : vomR (wordAt ws (taken + 1)) with
    | none =>
      rw [hv] at h2
      refine (pequal_val _ a w (fun w1 => RX w0 w1 vs vw ws (taken + 1) errno rule ∧ Stp w0.heap.size w w1) (fun v w' => Err w' errno v ∧ Stp w0.heap.size w w') h1 fun w1 hP => (h2 w1 hP).mono ?_).mono ?_
      · rintro e w' ⟨⟨te, pe, rfl, hE⟩, hS⟩
        exact ⟨te, pe, rfl, hE, hP.2.trans hS⟩
      · rintro e w' ⟨te, pe, w1, rfl, ⟨hE, hS⟩, hb⟩
        exact CAns.err hE hS hb
    | some b =>
      rw [hv] at h2
      refine (pequal_yes _ a (tnum b) w (fun w1 => RX w0 w1 vs vw ws (taken + 1) errno rule ∧ Stp w0.heap.size w w1) (fun w' => RX w0 w' vs vw ws (taken + 2) errno rule ∧ Stp w0.heap.size w w') h1 fun w1 hP => (h2 w1 hP).mono ?_).mono ?_
      · rintro e w' ⟨⟨⟨n, S, me, rfl⟩, hX⟩, hS⟩
        exact ⟨⟨n, S, me, rfl⟩, hX, hP.2.trans hS⟩
      · rintro e w' ⟨w1, w2, n, S, me, ⟨hX, hS⟩, hb, rfl, rfl⟩
        exact CAns.new hX hS hb _ _ fun hi W lo b' h1 h2 hr => ⟨h1, h2, _, hr, Or.inl rfl, rfl, rfl, rfl⟩

def sameR (ws : List (List UInt8)) (i : Nat) : Option (Cnd × Nat) :=
  match colRaw (wordAt ws i) with
  | none => none
  | some a => match colRaw (wordAt ws (i + 1)) with
    | none => none
    | some b => some (.same a b, i + 2)
theorem xsame (w0 w : World) (vs vw : Value) (ws : List (List UInt8)) (taken : Nat) (errno : Int) (rule : Bool) (h : RX w0 w vs vw ws taken errno rule) (ht : taken ≤ 16777215) :
    Calls Tryz.prog 329 #[.pointer (some ⟨w0.heap.size, 0, none⟩)] w fun e w' => CAns w0 w vs vw ws errno rule (sameR ws taken) e w' := by
  have h2 := xtwo w0 w vs vw ws taken errno rule h ht
  have hno : (colRaw (wordAt ws taken) = none ∨ colRaw (wordAt ws (taken + 1)) = none) → Calls Tryz.prog 329 #[.pointer (some ⟨w0.heap.size, 0, none⟩)] w fun e w' => CAns w0 w vs vw ws errno rule none e w' := by
    intro hn
    refine (psame_no _ w (fun v w' => Err w' errno v ∧ Stp w0.heap.size w w') (h2.mono ?_)).mono ?_
    · rintro e w' ⟨hA, hX, hS⟩
      rcases hA with ⟨c, d, hc, hd, _⟩ | ⟨_, a, b, te, pe, rfl, hE⟩
      · rcases hn with hn | hn
        · rw [hn] at hc; cases hc
        · rw [hn] at hd; cases hd
      · exact ⟨a, b, te, pe, rfl, hE, hS⟩
    · rintro e w' ⟨te, pe, rfl, hE, hS⟩
      exact CAns.err hE hS (Below.refl _ _)
  unfold sameR
  cases hc : colRaw (wordAt ws taken) with
  | none => exact hno (Or.inl hc)
  | some a =>
    cases hd : colRaw (wordAt ws (taken + 1)) with
    | none => exact hno (Or.inr hd)
    | some b =>
      rw [hc, hd] at h2
      refine (psame_yes _ a b w (fun w' => RX w0 w' vs vw ws (taken + 2) errno rule ∧ Stp w0.heap.size w w') (h2.mono ?_)).mono ?_
      · rintro e w' ⟨hA, hX, hS⟩
        rcases hA with ⟨c, d, hc', hd', rfl⟩ | ⟨hn, _⟩
        · cases hc'; cases hd'
          exact ⟨rfl, by simpa using hX, hS⟩
        · simp at hn
      · rintro e w' ⟨w1, ⟨hX, hS⟩, rfl, rfl⟩
        exact CAns.new hX hS (Below.refl _ _) _ _ fun hi W lo b' h1 h2 hr => ⟨h1, h2, _, hr, rfl, rfl, rfl, rfl⟩

set_option maxRecDepth 10000 in
set_option maxHeartbeats 1000000 in
theorem pless_col (rb : Nat) (w : World) (P : Value → World → Prop)
    (h1 : Calls Tryz.prog 210 #[.pointer (some ⟨rb, 0, none⟩)] w fun e w' => ∃ te pe, e = .returned (.tuple #[.int .i64 0, .iface te pe]) ∧ P (.iface te pe) w') :
    Calls Tryz.prog 328 #[.pointer (some ⟨rb, 0, none⟩)] w fun e w' => ∃ te pe, e = .returned (.tuple #[.pointer none, .iface te pe]) ∧ P (.iface te pe) w' := by
  go_enter Tryz.func328, Tryz.ntmps328
  go_wp2_with (go_at_call 210; refine h1.mono ?_; rintro e w1 ⟨te, pe, rfl, hP⟩)
  go_ret2
  exact ⟨te, pe, rfl, hP⟩
set_option maxRecDepth 10000 in
set_option maxHeartbeats 1000000 in
theorem pless_val (rb a : Nat) (x : List UInt8) (w : World) (P P2 : World → Prop) (Q : Value → World → Prop)
    (h1 : Calls Tryz.prog 210 #[.pointer (some ⟨rb, 0, none⟩)] w fun e w' => e = .returned (.tuple #[.int .i64 a, .nilIface]) ∧ P w')
    (hw : ∀ w1, P w1 → Calls Tryz.prog 156 #[.pointer (some ⟨rb, 0, none⟩)] w1 fun e w' => e = .returned (.string (bs x)) ∧ P2 w')
    (h2 : ∀ w1, P2 w1 → Calls Tryz.prog 211 #[.pointer (some ⟨rb, 0, none⟩), .string (bs x)] w1 fun e w' => ∃ te pe, e = .returned (.tuple #[.agg #[.int .i64 0, .int .i64 0, .string ⟨#[]⟩], .iface te pe]) ∧ Q (.iface te pe) w') :
    Calls Tryz.prog 328 #[.pointer (some ⟨rb, 0, none⟩)] w fun e w' => ∃ te pe w1, e = .returned (.tuple #[.pointer none, .iface te pe]) ∧ Q (.iface te pe) w1 ∧ Below w1.heap.size w1 w' := by
  go_enter Tryz.func328, Tryz.ntmps328
  go_wp2_with (first
    | (go_at_call 210; refine h1.mono ?_; rintro e w1 ⟨rfl, hP⟩)
    | (go_at_call 156; refine (hw _ hP).mono ?_; rintro e w2 ⟨rfl, hP2⟩)
    | (go_at_call 211; refine (h2 _ hP2).mono ?_; rintro e w3 ⟨te, pe, rfl, hQ⟩))
  go_ret2
  exact ⟨te, pe, w3, rfl, hQ, (Below.refl _ _).alloc (Nat.le_refl _) _⟩
set_option maxRecDepth 10000 in
set_option maxHeartbeats 1000000 in
theorem pless_yes (rb a : Nat) (x : List UInt8) (w : World) (P P2 Q : World → Prop)
    (h1 : Calls Tryz.prog 210 #[.pointer (some ⟨rb, 0, none⟩)] w fun e w' => e = .returned (.tuple #[.int .i64 a, .nilIface]) ∧ P w')
    (hw : ∀ w1, P w1 → Calls Tryz.prog 156 #[.pointer (some ⟨rb, 0, none⟩)] w1 fun e w' => e = .returned (.string (bs x)) ∧ P2 w')
    (h2 : ∀ w1, P2 w1 → Calls Tryz.prog 211 #[.pointer (some ⟨rb, 0, none⟩), .string (bs x)] w1 fun e w' => (∃ n S, e = .returned (.tuple #[.agg #[.int .i64 1, .int .i64 n, .string S], .nilIface])) ∧ Q w') :
    Calls Tryz.prog 328 #[.pointer (some ⟨rb, 0, none⟩)] w fun e w' => ∃ w1 w2 n S, Q w1 ∧ Below w1.heap.size w1 w2 ∧ e = .returned (.tuple #[.pointer (some ⟨w2.heap.size, 0, none⟩), .nilIface]) ∧
      w' = w2.alloc (.cells (leafRaw 2 a 1 n S false).row 436) := by
  go_enter Tryz.func328, Tryz.ntmps328
  go_wp2_with (first
    | (go_at_call 210; refine h1.mono ?_; rintro e w1 ⟨rfl, hP⟩)
    | (go_at_call 156; refine (hw _ hP).mono ?_; rintro e w2 ⟨rfl, hP2⟩)
    | (go_at_call 211; refine (h2 _ hP2).mono ?_; rintro e w3 ⟨⟨n, S, rfl⟩, hQ⟩))
  go_ret2
  exact ⟨w3, w3.alloc (.cells #[.int .i64 1, .int .i64 n, .string S] 335), n, S, hQ, (Below.refl _ _).alloc (Nat.le_refl _) _, by simp, rfl⟩
set_option maxRecDepth 10000 in
set_option maxHeartbeats 1000000 in
theorem pless_text (rb a : Nat) (x : List UInt8) (w : World) (P P2 Q : World → Prop) (R : Value → World → Prop)
    (h1 : Calls Tryz.prog 210 #[.pointer (some ⟨rb, 0, none⟩)] w fun e w' => e = .returned (.tuple #[.int .i64 a, .nilIface]) ∧ P w')
    (hw : ∀ w1, P w1 → Calls Tryz.prog 156 #[.pointer (some ⟨rb, 0, none⟩)] w1 fun e w' => e = .returned (.string (bs x)) ∧ P2 w')
    (h2 : ∀ w1, P2 w1 → Calls Tryz.prog 211 #[.pointer (some ⟨rb, 0, none⟩), .string (bs x)] w1 fun e w' => (∃ n S, e = .returned (.tuple #[.agg #[.int .i64 2, .int .i64 n, .string S], .nilIface])) ∧ Q w')
    (h3 : ∀ w1 w2 s, Q w1 → Below w1.heap.size w1 w2 → Calls Tryz.prog 159 #[.pointer (some ⟨rb, 0, none⟩), .string s] w2 fun e w' => ∃ te pe, e = .returned (.iface te pe) ∧ R (.iface te pe) w') :
    Calls Tryz.prog 328 #[.pointer (some ⟨rb, 0, none⟩)] w fun e w' => ∃ te pe, e = .returned (.tuple #[.pointer none, .iface te pe]) ∧ R (.iface te pe) w' := by
  go_enter Tryz.func328, Tryz.ntmps328
  go_wp2_with (first
    | (go_at_call 210; refine h1.mono ?_; rintro e w1 ⟨rfl, hP⟩)
    | (go_at_call 156; refine (hw _ hP).mono ?_; rintro e w2 ⟨rfl, hP2⟩)
    | (go_at_call 211; refine (h2 _ hP2).mono ?_; rintro e w3 ⟨⟨n, S, rfl⟩, hQ⟩)
    | (go_at_call 159; refine (h3 _ _ _ hQ ?hb).mono ?_; (case hb => exact (Below.refl _ _).alloc (Nat.le_refl _) _); rintro e w4 ⟨te, pe, rfl, hR⟩))
  go_ret2
  exact ⟨te, pe, rfl, hR⟩
end Go.Proofs.YtnpjldffciociaaGreatDoor
namespace Go.Proofs.YtnpjldffciociaaGreatDoor
open Go.RowKit

theorem xwrong (w0 w1 w2 : World) (vs vw : Value) (ws : List (List UInt8)) (taken : Nat) (errno : Int) (rule : Bool) (hX : RX w0 w1 vs vw ws taken errno rule) (hb : Below w1.heap.size w1 w2) (s : ByteArray) :
    Calls Tryz.prog 159 #[.pointer (some ⟨w0.heap.size, 0, none⟩), .string s] w2 fun e w' => ∃ te pe, e = .returned (.iface te pe) ∧ Err w' errno (.iface te pe) ∧ Below w2.heap.size w2 w' :=
  pwrong_any w2 w0.heap.size taken errno s (hX.below hb).rd.c2 (hX.below hb).rd.c3 (hX.below hb).rd.lt
def lessR (ws : List (List UInt8)) (i : Nat) : Option (Cnd × Nat) :=
  match colRaw (wordAt ws i) with
  | none => none
  | some a => if valKind (wordAt ws (i + 1)) = some false then some (.val a false, i + 2) else none
theorem xless (w0 w : World) (vs vw : Value) (ws : List (List UInt8)) (taken : Nat) (errno : Int) (rule : Bool) (h : RX w0 w vs vw ws taken errno rule) (ht : taken ≤ 16777215) (hg : Glob w0) :
    Calls Tryz.prog 328 #[.pointer (some ⟨w0.heap.size, 0, none⟩)] w fun e w' => CAns w0 w vs vw ws errno rule (lessR ws taken) e w' := by
  have h1 := xcolumn w0 w vs vw ws taken errno rule h (by omega)
  unfold lessR
  cases hc : colRaw (wordAt ws taken) with
  | none =>
    rw [hc] at h1
    refine (pless_col _ w (fun v w' => Err w' errno v ∧ Stp w0.heap.size w w') (h1.mono ?_)).mono ?_
    · rintro e w' ⟨⟨te, pe, rfl, hE⟩, hX, hS⟩
      exact ⟨te, pe, rfl, hE, hS⟩
    · rintro e w' ⟨te, pe, rfl, hE, hS⟩
      exact CAns.err hE hS (Below.refl _ _)
  | some a =>
    rw [hc] at h1
    have hw := fun w1 (hP : RX w0 w1 vs vw ws (taken + 1) errno rule ∧ Stp w0.heap.size w w1) => (xword w0 w1 vs vw ws (taken + 1) errno rule hP.1 (by omega)).mono
      (R' := fun e w' => e = .returned (.string (bs (wordAt ws (taken + 1)))) ∧ RX w0 w' vs vw ws (taken + 2) errno rule ∧ Stp w0.heap.size w w') fun e w' ⟨he, hX, hS⟩ => ⟨he, hX, hP.2.trans hS⟩
    have h2 := fun w1 (hP : RX w0 w1 vs vw ws (taken + 2) errno rule ∧ Stp w0.heap.size w w1) => xvalue w0 w1 vs vw ws (taken + 2) errno rule hP.1 (wordAt ws (taken + 1)) (h.word_len _) (hg.kept hP.1.bel)
    cases hv : valKind (wordAt ws (taken + 1)) with
    | none =>
      rw [hv] at h2
      refine (pless_val _ a _ w _ _ (fun v w' => Err w' errno v ∧ Stp w0.heap.size w w') h1 hw fun w1 hP => (h2 w1 hP).mono ?_).mono ?_
      · rintro e w' ⟨⟨te, pe, rfl, hE⟩, hb⟩
        exact ⟨te, pe, rfl, hE, hP.2.trans (Stp.of_below hb)⟩
      · rintro e w' ⟨te, pe, w1, rfl, ⟨hE, hS⟩, hb⟩
        exact CAns.err hE hS hb
    | some b =>
      rw [hv] at h2
      cases b with
      | false =>
        refine (pless_yes _ a _ w _ _ (fun w' => RX w0 w' vs vw ws (taken + 2) errno rule ∧ Stp w0.heap.size w w') h1 hw fun w1 hP => (h2 w1 hP).mono ?_).mono ?_
        · rintro e w' ⟨⟨n, S, rfl⟩, hb⟩
          exact ⟨⟨n, S, rfl⟩, hP.1.below hb, hP.2.trans (Stp.of_below hb)⟩
        · rintro e w' ⟨w1, w2, n, S, ⟨hX, hS⟩, hb, rfl, rfl⟩
          simp only [if_true]
          exact CAns.new hX hS hb _ _ fun hi W lo b' h1 h2 hr => ⟨h1, h2, _, hr, Or.inr rfl, rfl, rfl, rfl⟩
      | true =>
        refine (pless_text _ a _ w _ _ (fun w' => RX w0 w' vs vw ws (taken + 2) errno rule ∧ Stp w0.heap.size w w') (fun v w' => Err w' errno v ∧ Stp w0.heap.size w w') h1 hw (fun w1 hP => (h2 w1 hP).mono ?_) fun w1 w2 s hQ hb => (xwrong w0 w1 w2 vs vw ws _ errno rule hQ.1 hb s).mono ?_).mono ?_
        · rintro e w' ⟨⟨n, S, rfl⟩, hb⟩
          exact ⟨⟨n, S, rfl⟩, hP.1.below hb, hP.2.trans (Stp.of_below hb)⟩
        · rintro e w' ⟨te, pe, rfl, hE, hb'⟩
          exact ⟨te, pe, rfl, hE, (hQ.2.trans (Stp.of_below hb)).trans (Stp.of_below hb')⟩
        · rintro e w' ⟨te, pe, rfl, hE, hS⟩
          simp only [if_false, Option.some.injEq, Bool.true_eq_false]
          exact CAns.err hE hS (Below.refl _ _)

set_option maxRecDepth 10000 in
set_option maxHeartbeats 1000000 in
theorem pin_no (rb : Nat) (w : World) (R : Value → World → Prop) (h4 : w.cell? ⟨rb, 4, none⟩ = some (.bool false))
    (h3 : ∀ s, Calls Tryz.prog 159 #[.pointer (some ⟨rb, 0, none⟩), .string s] w fun e w' => ∃ te pe, e = .returned (.iface te pe) ∧ R (.iface te pe) w') :
    Calls Tryz.prog 331 #[.pointer (some ⟨rb, 0, none⟩)] w fun e w' => ∃ te pe, e = .returned (.tuple #[.pointer none, .iface te pe]) ∧ R (.iface te pe) w' := by
  go_enter Tryz.func331, Tryz.ntmps331
  go_wp2_with (go_at_call 159; refine (h3 _).mono ?_; rintro e w1 ⟨te, pe, rfl, hR⟩)
  go_ret2
  exact ⟨te, pe, rfl, hR⟩
set_option maxRecDepth 10000 in
set_option maxHeartbeats 1000000 in
theorem pin_col (rb : Nat) (w : World) (R : Value → World → Prop) (h4 : w.cell? ⟨rb, 4, none⟩ = some (.bool true))
    (h1 : Calls Tryz.prog 210 #[.pointer (some ⟨rb, 0, none⟩)] w fun e w' => ∃ te pe, e = .returned (.tuple #[.int .i64 0, .iface te pe]) ∧ R (.iface te pe) w') :
    Calls Tryz.prog 331 #[.pointer (some ⟨rb, 0, none⟩)] w fun e w' => ∃ te pe, e = .returned (.tuple #[.pointer none, .iface te pe]) ∧ R (.iface te pe) w' := by
  go_enter Tryz.func331, Tryz.ntmps331
  go_wp2_with (go_at_call 210; refine h1.mono ?_; rintro e w1 ⟨te, pe, rfl, hR⟩)
  go_ret2
  exact ⟨te, pe, rfl, hR⟩
set_option maxRecDepth 10000 in
set_option maxHeartbeats 1000000 in
theorem pin_table (rb a : Nat) (w : World) (P : World → Prop) (R : Value → World → Prop) (h4 : w.cell? ⟨rb, 4, none⟩ = some (.bool true))
    (h1 : Calls Tryz.prog 210 #[.pointer (some ⟨rb, 0, none⟩)] w fun e w' => e = .returned (.tuple #[.int .i64 a, .nilIface]) ∧ P w')
    (h2 : ∀ w1, P w1 → Calls Tryz.prog 160 #[.pointer (some ⟨rb, 0, none⟩)] w1 fun e w' => ∃ te pe, e = .returned (.tuple #[.int .i64 0, .iface te pe]) ∧ R (.iface te pe) w') :
    Calls Tryz.prog 331 #[.pointer (some ⟨rb, 0, none⟩)] w fun e w' => ∃ te pe, e = .returned (.tuple #[.pointer none, .iface te pe]) ∧ R (.iface te pe) w' := by
  go_enter Tryz.func331, Tryz.ntmps331
  go_wp2_with (first
    | (go_at_call 210; refine h1.mono ?_; rintro e w1 ⟨rfl, hP⟩)
    | (go_at_call 160; refine (h2 _ hP).mono ?_; rintro e w2 ⟨te, pe, rfl, hR⟩))
  go_ret2
  exact ⟨te, pe, rfl, hR⟩
set_option maxRecDepth 10000 in
set_option maxHeartbeats 1000000 in
theorem pin_two (rb a t : Nat) (w : World) (P P2 : World → Prop) (R : Value → World → Prop) (h4 : w.cell? ⟨rb, 4, none⟩ = some (.bool true))
    (h1 : Calls Tryz.prog 210 #[.pointer (some ⟨rb, 0, none⟩)] w fun e w' => e = .returned (.tuple #[.int .i64 a, .nilIface]) ∧ P w')
    (h2 : ∀ w1, P w1 → Calls Tryz.prog 160 #[.pointer (some ⟨rb, 0, none⟩)] w1 fun e w' => e = .returned (.tuple #[.int .i64 t, .nilIface]) ∧ P2 w')
    (h3 : ∀ w1, P2 w1 → Calls Tryz.prog 246 #[.pointer (some ⟨rb, 0, none⟩)] w1 fun e w' => ∃ (x y : Int) (te : TypeId) (pe : Value), e = .returned (.tuple #[.int .i64 x, .int .i64 y, .iface te pe]) ∧ R (.iface te pe) w') :
    Calls Tryz.prog 331 #[.pointer (some ⟨rb, 0, none⟩)] w fun e w' => ∃ te pe, e = .returned (.tuple #[.pointer none, .iface te pe]) ∧ R (.iface te pe) w' := by
  go_enter Tryz.func331, Tryz.ntmps331
  go_wp2_with (first
    | (go_at_call 210; refine h1.mono ?_; rintro e w1 ⟨rfl, hP⟩)
    | (go_at_call 160; refine (h2 _ hP).mono ?_; rintro e w2 ⟨rfl, hP2⟩)
    | (go_at_call 246; refine (h3 _ hP2).mono ?_; rintro e w3 ⟨x, y, te, pe, rfl, hR⟩))
  go_ret2
  exact ⟨te, pe, rfl, hR⟩
set_option maxRecDepth 10000 in
set_option maxHeartbeats 1000000 in
theorem pin_yes (rb a t m o : Nat) (w : World) (P P2 P3 : World → Prop) (h4 : w.cell? ⟨rb, 4, none⟩ = some (.bool true))
    (h1 : Calls Tryz.prog 210 #[.pointer (some ⟨rb, 0, none⟩)] w fun e w' => e = .returned (.tuple #[.int .i64 a, .nilIface]) ∧ P w')
    (h2 : ∀ w1, P w1 → Calls Tryz.prog 160 #[.pointer (some ⟨rb, 0, none⟩)] w1 fun e w' => e = .returned (.tuple #[.int .i64 t, .nilIface]) ∧ P2 w')
    (h3 : ∀ w1, P2 w1 → Calls Tryz.prog 246 #[.pointer (some ⟨rb, 0, none⟩)] w1 fun e w' => e = .returned (.tuple #[.int .i64 m, .int .i64 o, .nilIface]) ∧ P3 w') :
    Calls Tryz.prog 331 #[.pointer (some ⟨rb, 0, none⟩)] w fun e w' => ∃ w1, P3 w1 ∧ e = .returned (.tuple #[.pointer (some ⟨w1.heap.size, 0, none⟩), .nilIface]) ∧
      w' = w1.alloc (.cells (Raw.row { test := 7, col := a, vt := 0, vn := 0, vs := ByteArray.empty, me := false, other := 0, table := t, mtch := m, who := o, parts := .slice none 0 0, pl := 0 }) 436) := by
  go_enter Tryz.func331, Tryz.ntmps331
  go_wp2_with (first
    | (go_at_call 210; refine h1.mono ?_; rintro e w1 ⟨rfl, hP⟩)
    | (go_at_call 160; refine (h2 _ hP).mono ?_; rintro e w2 ⟨rfl, hP2⟩)
    | (go_at_call 246; refine (h3 _ hP2).mono ?_; rintro e w3 ⟨rfl, hP3⟩))
  go_ret2
  exact ⟨w3, hP3, rfl, rfl⟩

def inR (ts : List (List UInt8 × List Bool)) (law : Bool) (ws : List (List UInt8)) (i : Nat) : Option (Cnd × Nat) :=
  if law then (match colRaw (wordAt ws i) with
    | none => none
    | some a => match findT ts (wordAt ws (i + 1)) with
      | none => none
      | some t => match colRaw (wordAt ws (i + 2)) with
        | none => none
        | some m => match colRaw (wordAt ws (i + 3)) with
          | none => none
          | some o => some (.isin a t m o, i + 4)) else none
theorem xin (w0 w : World) (vs vw : Value) (ts : List (List UInt8 × List Bool)) (ws : List (List UInt8)) (taken : Nat) (errno : Int) (rule : Bool) (h : RX w0 w vs vw ws taken errno rule) (ht : taken ≤ 16777213) (hs : ReadsTabs tcode w0 vs ts) (hl : ts.length ≤ 1048577) :
    Calls Tryz.prog 331 #[.pointer (some ⟨w0.heap.size, 0, none⟩)] w fun e w' => CAns w0 w vs vw ws errno rule (inR ts rule ws taken) e w' := by
  unfold inR
  cases rule with
  | false =>
    refine (pin_no _ w (fun v w' => Err w' errno v ∧ Stp w0.heap.size w w') h.rd.c4 fun s => (xwrong w0 w w vs vw ws _ errno false h (Below.refl _ _) s).mono ?_).mono ?_
    · rintro e w' ⟨te, pe, rfl, hE, hb⟩
      exact ⟨te, pe, rfl, hE, Stp.of_below hb⟩
    · rintro e w' ⟨te, pe, rfl, hE, hS⟩
      exact CAns.err hE hS (Below.refl _ _)
  | true =>
    rw [if_pos rfl]
    have h1 := xcolumn w0 w vs vw ws taken errno true h (by omega)
    cases hc : colRaw (wordAt ws taken) with
    | none =>
      rw [hc] at h1
      refine (pin_col _ w (fun v w' => Err w' errno v ∧ Stp w0.heap.size w w') h.rd.c4 (h1.mono ?_)).mono ?_
      · rintro e w' ⟨⟨te, pe, rfl, hE⟩, hX, hS⟩
        exact ⟨te, pe, rfl, hE, hS⟩
      · rintro e w' ⟨te, pe, rfl, hE, hS⟩
        exact CAns.err hE hS (Below.refl _ _)
    | some a =>
      rw [hc] at h1
      have h2 := fun w1 (hP : RX w0 w1 vs vw ws (taken + 1) errno true ∧ Stp w0.heap.size w w1) => xtable w0 w1 vs vw ts ws (taken + 1) errno true hP.1 (by omega) hs hl
      cases hf : findT ts (wordAt ws (taken + 1)) with
      | none =>
        rw [hf] at h2
        refine (pin_table _ a w _ (fun v w' => Err w' errno v ∧ Stp w0.heap.size w w') h.rd.c4 h1 fun w1 hP => (h2 w1 hP).mono ?_).mono ?_
        · rintro e w' ⟨⟨te, pe, rfl, hE⟩, hX, hS⟩
          exact ⟨te, pe, rfl, hE, hP.2.trans hS⟩
        · rintro e w' ⟨te, pe, rfl, hE, hS⟩
          exact CAns.err hE hS (Below.refl _ _)
      | some t =>
        rw [hf] at h2
        have h2' : ∀ w1, RX w0 w1 vs vw ws (taken + 1) errno true ∧ Stp w0.heap.size w w1 → Calls Tryz.prog 160 #[.pointer (some ⟨w0.heap.size, 0, none⟩)] w1 fun e w' => e = .returned (.tuple #[.int .i64 t, .nilIface]) ∧ RX w0 w' vs vw ws (taken + 2) errno true ∧ Stp w0.heap.size w w' :=
          fun w1 hP => (h2 w1 hP).mono fun e w' ⟨he, hX, hS⟩ => ⟨he, hX, hP.2.trans hS⟩
        have h3 := fun w1 (hP : RX w0 w1 vs vw ws (taken + 2) errno true ∧ Stp w0.heap.size w w1) => xtwo w0 w1 vs vw ws (taken + 2) errno true hP.1 (by omega)
        have hno : (colRaw (wordAt ws (taken + 2)) = none ∨ colRaw (wordAt ws (taken + 3)) = none) → Calls Tryz.prog 331 #[.pointer (some ⟨w0.heap.size, 0, none⟩)] w fun e w' => CAns w0 w vs vw ws errno true none e w' := by
          intro hn
          refine (pin_two _ a t w _ _ (fun v w' => Err w' errno v ∧ Stp w0.heap.size w w') h.rd.c4 h1 h2' fun w1 hP => (h3 w1 hP).mono ?_).mono ?_
          · rintro e w' ⟨hA, hX, hS⟩
            rcases hA with ⟨c, d, hc, hd, _⟩ | ⟨_, a, b, te, pe, rfl, hE⟩
            · rcases hn with hn | hn
              · rw [hn] at hc; cases hc
              · rw [hn] at hd; cases hd
            · exact ⟨a, b, te, pe, rfl, hE, hP.2.trans hS⟩
          · rintro e w' ⟨te, pe, rfl, hE, hS⟩
            exact CAns.err hE hS (Below.refl _ _)
        simp only []
        cases hm : colRaw (wordAt ws (taken + 2)) with
        | none => exact hno (Or.inl hm)
        | some m =>
          cases ho : colRaw (wordAt ws (taken + 3)) with
          | none => exact hno (Or.inr ho)
          | some o =>
            refine (pin_yes _ a t m o w _ _ (fun w' => RX w0 w' vs vw ws (taken + 4) errno true ∧ Stp w0.heap.size w w') h.rd.c4 h1 h2' fun w1 hP => (h3 w1 hP).mono ?_).mono ?_
            · rintro e w' ⟨hA, hX, hS⟩
              have e3 : taken + 2 + 1 = taken + 3 := rfl
              rw [e3, hm, ho] at hA
              rw [hm] at hX
              rcases hA with ⟨c, d, hc', hd', rfl⟩ | ⟨hn, _⟩
              · cases hc'; cases hd'
                exact ⟨rfl, by simpa using hX, hP.2.trans hS⟩
              · simp at hn
            · rintro e w' ⟨w1, ⟨hX, hS⟩, rfl, rfl⟩
              exact CAns.new hX hS (Below.refl _ _) _ _ fun hi W lo b' h1 h2 hr => ⟨h1, h2, _, hr, rfl, rfl, rfl, rfl, rfl, rfl⟩
end Go.Proofs.YtnpjldffciociaaGreatDoor
