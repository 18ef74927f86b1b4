import Derived.Test.YtiekijfmafklfaaGreatDoorProgM
import Derived.Deep.RegionWith
namespace Go.Proofs.YtiekijfmafklfaaGreatDoor
open Go.RowKit

theorem RX.slice {w0 w : World} {vs vw : Value} {ws : List (List UInt8)} {taken : Nat} {errno : Int} {rule : Bool} (h : RX w0 w vs vw ws taken errno rule) : ∃ a cap, vw = .slice a ws.length cap := by
  obtain ⟨a, cap, rfl, _⟩ := h.reads
  exact ⟨a, cap, by simp⟩

theorem belowN {B : Nat} {a w : World} (h : Below B a w) (m : Nat) : Below B a (w.drewN m) := ⟨h.os, h.tape, h.output, h.size, h.block⟩

set_option maxRecDepth 10000 in
set_option maxHeartbeats 1000000 in
theorem pend_ok (w : World) (rb taken n cap : Nat) (a : Option Addr) (hr1 : w.cell? ⟨rb, 1, none⟩ = some (.slice a n cap)) (hr2 : w.cell? ⟨rb, 2, none⟩ = some (.int .i64 taken)) (ht : n ≤ taken) :
    Calls Tryz.prog 29 #[.pointer (some ⟨rb, 0, none⟩)] w fun e w' => e = .returned .nilIface ∧ Below w.heap.size w w' := by
  have h1 : ¬ ((taken : Int) < (n : Int)) := by omega
  go_enter Tryz.func29, Tryz.ntmps29
  go_wp2
  go_quiet (fail)
  go_wp2
  go_ret
  exact ⟨rfl, belowN (Below.refl _ _) _⟩

set_option maxRecDepth 10000 in
set_option maxHeartbeats 1000000 in
theorem pend_no (w : World) (rb taken n cap : Nat) (a : Option Addr) (errno : Int) (hr1 : w.cell? ⟨rb, 1, none⟩ = some (.slice a n cap)) (hr2 : w.cell? ⟨rb, 2, none⟩ = some (.int .i64 taken)) (hr3 : w.cell? ⟨rb, 3, none⟩ = some (.int .i64 errno)) (ht : taken < n) (hn : n ≤ 1048577) :
    Calls Tryz.prog 29 #[.pointer (some ⟨rb, 0, none⟩)] w fun e w' => (∃ te pe, e = .returned (.iface te pe) ∧ Err w' errno (.iface te pe)) ∧ Below w.heap.size w w' := by
  have h1 : (taken : Int) < (n : Int) := by omega
  go_enter Tryz.func29, Tryz.ntmps29
  go_wp2
  go_quiet (fail)
  go_wp2_with (first
    | (go_at_call 49; with_reducible refine (pplace_any _ rb taken ?hr ?ht).mono ?_; (case hr => simpa using hr2); (case ht => omega); rintro e w' ⟨rfl, rfl⟩)
    | (go_at_call 27; with_reducible refine (pfault_any _ rb errno _ ?hr).mono ?_; (case hr => simpa using hr3); rintro e w' ⟨rfl, rfl⟩))
  go_ret
  exact ⟨⟨_, _, rfl, Err.newWrap _ _ _ _ _⟩, ((belowN (Below.refl _ _) _).alloc (by simp) _).alloc (by simp) _⟩

/-- Whether nothing is left. -/
theorem xend (w0 w : World) (vs vw : Value) (ws : List (List UInt8)) (taken : Nat) (errno : Int) (rule : Bool) (h : RX w0 w vs vw ws taken errno rule) :
    Calls Tryz.prog 29 #[.pointer (some ⟨w0.heap.size, 0, none⟩)] w fun e w' => (if ws.length ≤ taken then e = .returned .nilIface else ∃ te pe, e = .returned (.iface te pe) ∧ Err w' errno (.iface te pe)) ∧ Below w.heap.size w w' := by
  obtain ⟨a, cap, rfl⟩ := h.slice
  by_cases hc : ws.length ≤ taken
  · simp only [hc, if_true]
    exact pend_ok w _ taken _ cap a h.rd.c1 h.rd.c2 hc
  · simp only [hc, if_false]
    exact pend_no w _ taken _ cap a errno h.rd.c1 h.rd.c2 h.rd.c3 (by omega) h.len

set_option maxRecDepth 10000 in
set_option maxHeartbeats 1000000 in
theorem two_first (rb : Nat) (w : World) (Q : Value → World → Prop)
    (h1 : Calls Tryz.prog 88 #[.pointer (some ⟨rb, 0, none⟩)] w fun e w' => ∃ te pe, e = .returned (.tuple #[.int .i64 0, .iface te pe]) ∧ Q (.iface te pe) w') :
    Calls Tryz.prog 102 #[.pointer (some ⟨rb, 0, none⟩)] w fun e w' => ∃ te pe, e = .returned (.tuple #[.int .i64 0, .int .i64 0, .iface te pe]) ∧ Q (.iface te pe) w' := by
  go_enter Tryz.func102, Tryz.ntmps102
  go_wp2_with (go_at_call 88; with_reducible refine h1.mono ?_; rintro e w1 ⟨te, pe, rfl, hQ⟩)
  go_ret3
  exact ⟨_, _, rfl, hQ⟩

set_option maxRecDepth 10000 in
set_option maxHeartbeats 1000000 in
theorem two_second (rb : Nat) (w : World) (c : Nat) (P : World → Prop) (Q : Int → Value → World → Prop)
    (h1 : Calls Tryz.prog 88 #[.pointer (some ⟨rb, 0, none⟩)] w fun e w' => e = .returned (.tuple #[.int .i64 c, .nilIface]) ∧ P w')
    (h2 : ∀ w1, P w1 → Calls Tryz.prog 88 #[.pointer (some ⟨rb, 0, none⟩)] w1 fun e w' => ∃ c2 v, e = .returned (.tuple #[.int .i64 c2, v]) ∧ Q c2 v w') :
    Calls Tryz.prog 102 #[.pointer (some ⟨rb, 0, none⟩)] w fun e w' => ∃ c2 v, e = .returned (.tuple #[.int .i64 c, .int .i64 c2, v]) ∧ Q c2 v w' := by
  go_enter Tryz.func102, Tryz.ntmps102
  go_wp2_with (go_at_call 88; first | (with_reducible refine h1.mono ?_; rintro e w1 ⟨rfl, hP⟩) | (with_reducible refine (h2 _ hP).mono ?_; rintro e w2 ⟨c2, v, rfl, hQ⟩))
  go_ret3
  exact ⟨_, _, rfl, hQ⟩

/-- What a reader of two numbers answers. -/
def TwoAns (o1 o2 : Option Nat) (errno : Int) (e : Ending) (w' : World) : Prop :=
  (∃ c d, o1 = some c ∧ o2 = some d ∧ e = .returned (.tuple #[.int .i64 c, .int .i64 d, .nilIface])) ∨
  ((o1 = none ∨ o2 = none) ∧ ∃ (a b : Int) (te : TypeId) (pe : Value), e = .returned (.tuple #[.int .i64 a, .int .i64 b, .iface te pe]) ∧ Err w' errno (.iface te pe))

/-- COL COL. -/
theorem xtwo (w0 w : World) (vs vw : Value) (ws : List (List UInt8)) (taken : Nat) (errno : Int) (rule : Bool) (h : RX w0 w vs vw ws taken errno rule) (ht : taken ≤ 16777215) :
    Calls Tryz.prog 102 #[.pointer (some ⟨w0.heap.size, 0, none⟩)] w fun e w' => TwoAns (colRaw (wordAt ws taken)) (colRaw (wordAt ws (taken + 1))) errno e w' ∧
      RX w0 w' vs vw ws (if (colRaw (wordAt ws taken)).isSome then taken + 2 else taken + 1) errno rule ∧ Stp w0.heap.size w w' := by
  have h1 := xcolumn w0 w vs vw ws taken errno rule h (by omega)
  cases hc : colRaw (wordAt ws taken) with
  | none =>
    rw [hc] at h1
    refine (two_first _ w (fun v w' => Err w' errno v ∧ RX w0 w' vs vw ws (taken + 1) errno rule ∧ Stp w0.heap.size w w') (h1.mono ?_)).mono ?_
    · rintro e w' ⟨⟨te, pe, rfl, hE⟩, hX, hS⟩
      exact ⟨te, pe, rfl, hE, hX, hS⟩
    · rintro e w' ⟨te, pe, rfl, hE, hX, hS⟩
      exact ⟨.inr ⟨.inl rfl, _, _, te, pe, rfl, hE⟩, by simpa using hX, hS⟩
  | some c =>
    rw [hc] at h1
    refine (two_second _ w c (fun w' => RX w0 w' vs vw ws (taken + 1) errno rule ∧ Stp w0.heap.size w w')
      (fun c2 v w' => NumAns (colRaw (wordAt ws (taken + 1))) errno (.returned (.tuple #[.int .i64 c2, v])) w' ∧ RX w0 w' vs vw ws (taken + 2) errno rule ∧ Stp w0.heap.size w w') h1 ?_).mono ?_
    · rintro w1 ⟨hX, hS⟩
      refine (xcolumn w0 w1 vs vw ws (taken + 1) errno rule hX (by omega)).mono ?_
      rintro e w' ⟨hA, hX', hS'⟩
      cases hd : colRaw (wordAt ws (taken + 1)) with
      | none =>
        rw [hd] at hA
        obtain ⟨te, pe, rfl, hE⟩ := hA
        exact ⟨0, _, rfl, ⟨te, pe, rfl, hE⟩, hX', hS.trans hS'⟩
      | some d =>
        rw [hd] at hA
        obtain rfl := hA
        exact ⟨d, _, rfl, rfl, hX', hS.trans hS'⟩
    · rintro e w' ⟨c2, v, rfl, hA, hX, hS⟩
      refine ⟨?_, by simpa using hX, hS⟩
      cases hd : colRaw (wordAt ws (taken + 1)) with
      | none =>
        rw [hd] at hA
        obtain ⟨te, pe, he, hE⟩ := hA
        injection he with he; injection he with he
        simp at he
        obtain ⟨rfl, rfl⟩ := he
        exact .inr ⟨.inr rfl, _, _, te, pe, rfl, hE⟩
      | some d =>
        rw [hd] at hA
        have he := hA
        unfold NumAns at he
        injection he with he; injection he with he
        simp at he
        obtain ⟨rfl, rfl⟩ := he
        exact .inl ⟨c, d, rfl, rfl, rfl⟩

end Go.Proofs.YtiekijfmafklfaaGreatDoor
