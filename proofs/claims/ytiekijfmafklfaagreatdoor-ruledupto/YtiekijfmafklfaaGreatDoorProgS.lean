import Derived.Test.YtiekijfmafklfaaGreatDoorProgR
namespace Go.Proofs.YtiekijfmafklfaaGreatDoor
open Go.RowKit

/-- What a value, or me, is. -/
def vomR (x : List UInt8) : Option Bool := if x = wMe then some true else valKind x
def VAns (w0 w : World) (vs vw : Value) (ws : List (List UInt8)) (taken : Nat) (errno : Int) (rule : Bool) (o : Option Bool) (e : Ending) (w' : World) : Prop :=
  (match o with
    | some b => (∃ n S me, e = .returned (.tuple #[.agg #[.int .i64 (tnum b), .int .i64 n, .string S], .bool me, .nilIface])) ∧ RX w0 w' vs vw ws (taken + 1) errno rule
    | none => ∃ te pe, e = .returned (.tuple #[.agg #[.int .i64 0, .int .i64 0, .string ⟨#[]⟩], .bool false, .iface te pe]) ∧ Err w' errno (.iface te pe)) ∧ Stp w0.heap.size w w'
theorem xvom (w0 w : World) (vs vw : Value) (ws : List (List UInt8)) (taken : Nat) (errno : Int) (rule : Bool) (h : RX w0 w vs vw ws taken errno rule) (ht : taken ≤ 16777216) (hg : Glob w0) :
    Calls Tryz.prog 132 #[.pointer (some ⟨w0.heap.size, 0, none⟩)] w fun e w' => VAns w0 w vs vw ws taken errno rule (vomR (wordAt ws taken)) e w' := by
  have hlt := h.rd.lt
  have hba : ∀ o, Below w.heap.size w (w.alloc o) := fun o => (Below.refl _ _).alloc (Nat.le_refl _) o
  have hw : ∀ o, Calls Tryz.prog 57 #[.pointer (some ⟨w0.heap.size, 0, none⟩)] (w.alloc o) fun e w' => e = .returned (.string (bs (wordAt ws taken))) ∧ Stp w0.heap.size (w.alloc o) w' ∧ RX w0 w' vs vw ws (taken + 1) errno rule ∧ Stp w0.heap.size w w' := fun o =>
    (xword w0 (w.alloc o) vs vw ws taken errno rule (h.below (hba o)) ht).mono fun e w' ⟨he, hX, hS⟩ => ⟨he, hS, hX, (Stp.of_below (hba o)).trans hS⟩
  have hxl := h.word_len taken
  generalize wordAt ws taken = x at *
  by_cases hx : x = wMe
  · subst hx
    refine (pvom_me w0.heap.size w _ hlt hw).mono ?_
    rintro e w' ⟨rfl, w1, ⟨hX, hS⟩, hgr⟩
    refine ⟨?_, hS.other hgr (Nat.le_refl _)⟩
    unfold vomR
    rw [if_pos rfl]
    exact ⟨⟨_, _, _, rfl⟩, hX.other hgr hlt⟩
  · have hxb : (x == wMe) = false := by simpa using hx
    have hv : vomR x = valKind x := by unfold vomR; rw [if_neg hx]
    rw [hv]
    refine (pvom_val w0.heap.size w _ (fun t n S ev w' => (match valKind x with
      | some b => t = tnum b ∧ ev = .nilIface
      | none => t = 0 ∧ n = 0 ∧ S = ⟨#[]⟩ ∧ ∃ te pe, ev = .iface te pe ∧ Err w' errno (.iface te pe)) ∧ RX w0 w' vs vw ws (taken + 1) errno rule ∧ Stp w0.heap.size w w') x hxb hlt hw ?_).mono ?_
    · rintro w1 ⟨hX, hS⟩
      refine (xvalue w0 w1 vs vw ws (taken + 1) errno rule hX x hxl (hg.kept hX.bel)).mono ?_
      rintro e w' ⟨hA, hb⟩
      refine ⟨?_, hb⟩
      unfold RValAns at hA
      cases hk : valKind x with
      | some b =>
        rw [hk] at hA
        obtain ⟨n, S, rfl⟩ := hA
        exact ⟨_, n, S, _, rfl, ⟨rfl, rfl⟩, hX.below hb, hS.trans (Stp.of_below hb)⟩
      | none =>
        rw [hk] at hA
        obtain ⟨te, pe, rfl, hE⟩ := hA
        exact ⟨_, _, _, _, rfl, ⟨rfl, rfl, rfl, te, pe, rfl, hE⟩, hX.below hb, hS.trans (Stp.of_below hb)⟩
    · rintro e w' ⟨t, n, S, ev, w2, rfl, ⟨hA, hX, hS⟩, hgr, hcells⟩
      refine ⟨?_, hS.other hgr (Nat.le_refl _)⟩
      cases hk : valKind x with
      | some b =>
        rw [hk] at hA
        obtain ⟨rfl, rfl⟩ := hA
        exact ⟨⟨n, S, _, rfl⟩, hX.other hgr hlt⟩
      | none =>
        rw [hk] at hA
        obtain ⟨rfl, rfl, rfl, te, pe, rfl, hE⟩ := hA
        exact ⟨te, pe, rfl, hE.same hgr.size (hcells rfl rfl rfl)⟩

abbrev leafRaw (test col vt vn : Int) (S : ByteArray) (me : Bool) : Raw := { test := test, col := col, vt := vt, vn := vn, vs := S, me := me, other := 0, table := 0, mtch := 0, who := 0, parts := .slice none 0 0, pl := 0 }
set_option maxRecDepth 10000 in
set_option maxHeartbeats 1000000 in
theorem pequal_col (rb : Nat) (w : World) (P : Value → World → Prop)
    (h1 : Calls Tryz.prog 88 #[.pointer (some ⟨rb, 0, none⟩)] w fun e w' => ∃ te pe, e = .returned (.tuple #[.int .i64 0, .iface te pe]) ∧ P (.iface te pe) w') :
    Calls Tryz.prog 122 #[.pointer (some ⟨rb, 0, none⟩)] w fun e w' => ∃ te pe, e = .returned (.tuple #[.pointer none, .iface te pe]) ∧ P (.iface te pe) w' := by
  go_enter Tryz.func122, Tryz.ntmps122
  go_wp2_with (go_at_call 88; refine h1.mono ?_; rintro e w1 ⟨te, pe, rfl, hP⟩)
  go_ret2
  exact ⟨te, pe, rfl, hP⟩
set_option maxRecDepth 10000 in
set_option maxHeartbeats 1000000 in
theorem pequal_val (rb a : Nat) (w : World) (P : World → Prop) (Q : Value → World → Prop)
    (h1 : Calls Tryz.prog 88 #[.pointer (some ⟨rb, 0, none⟩)] w fun e w' => e = .returned (.tuple #[.int .i64 a, .nilIface]) ∧ P w')
    (h2 : ∀ w1, P w1 → Calls Tryz.prog 132 #[.pointer (some ⟨rb, 0, none⟩)] w1 fun e w' => ∃ te pe, e = .returned (.tuple #[.agg #[.int .i64 0, .int .i64 0, .string ⟨#[]⟩], .bool false, .iface te pe]) ∧ Q (.iface te pe) w') :
    Calls Tryz.prog 122 #[.pointer (some ⟨rb, 0, none⟩)] w fun e w' => ∃ te pe w1, e = .returned (.tuple #[.pointer none, .iface te pe]) ∧ Q (.iface te pe) w1 ∧ Below w1.heap.size w1 w' := by
  go_enter Tryz.func122, Tryz.ntmps122
  go_wp2_with (first
    | (go_at_call 88; refine h1.mono ?_; rintro e w1 ⟨rfl, hP⟩)
    | (go_at_call 132; refine (h2 _ hP).mono ?_; rintro e w2 ⟨te, pe, rfl, hQ⟩))
  go_ret2
  exact ⟨te, pe, w2, rfl, hQ, (Below.refl _ _).alloc (Nat.le_refl _) _⟩
set_option maxRecDepth 10000 in
set_option maxHeartbeats 1000000 in
theorem pequal_yes (rb a : Nat) (t : Int) (w : World) (P Q : World → Prop)
    (h1 : Calls Tryz.prog 88 #[.pointer (some ⟨rb, 0, none⟩)] w fun e w' => e = .returned (.tuple #[.int .i64 a, .nilIface]) ∧ P w')
    (h2 : ∀ w1, P w1 → Calls Tryz.prog 132 #[.pointer (some ⟨rb, 0, none⟩)] w1 fun e w' => (∃ n S me, e = .returned (.tuple #[.agg #[.int .i64 t, .int .i64 n, .string S], .bool me, .nilIface])) ∧ Q w') :
    Calls Tryz.prog 122 #[.pointer (some ⟨rb, 0, none⟩)] w fun e w' => ∃ w1 w2 n S me, Q w1 ∧ Below w1.heap.size w1 w2 ∧ e = .returned (.tuple #[.pointer (some ⟨w2.heap.size, 0, none⟩), .nilIface]) ∧
      w' = w2.alloc (.cells (leafRaw 1 a t n S me).row 200) := by
  go_enter Tryz.func122, Tryz.ntmps122
  go_wp2_with (first
    | (go_at_call 88; refine h1.mono ?_; rintro e w1 ⟨rfl, hP⟩)
    | (go_at_call 132; refine (h2 _ hP).mono ?_; rintro e w2 ⟨⟨n, S, me, rfl⟩, hQ⟩))
  go_ret2
  exact ⟨w2, w2.alloc (.cells #[.int .i64 t, .int .i64 n, .string S] 163), n, S, me, hQ, (Below.refl _ _).alloc (Nat.le_refl _) _, by simp, rfl⟩
end Go.Proofs.YtiekijfmafklfaaGreatDoor
