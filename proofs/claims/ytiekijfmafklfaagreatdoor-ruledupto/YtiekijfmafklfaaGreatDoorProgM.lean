import Derived.Test.YtiekijfmafklfaaGreatDoorProgL
namespace Go.Proofs.YtiekijfmafklfaaGreatDoor
open Go.RowKit

/-- All that was there is as it was, but for the block rb. -/
abbrev Stp (rb : Nat) (w w' : World) : Prop := w.grownBy w' (some rb)

theorem Stp.refl (rb : Nat) (w : World) : Stp rb w w := World.grownBy.refl _ _
theorem Stp.trans {rb : Nat} {a b c : World} (h : Stp rb a b) (k : Stp rb b c) : Stp rb a c :=
  ⟨k.os.trans h.os, k.tape.trans h.tape, k.output.trans h.output, Nat.le_trans h.size k.size, fun i hi hn => (k.block i (Nat.lt_of_lt_of_le hi h.size) hn).trans (h.block i hi hn)⟩
theorem Stp.of_below {rb : Nat} {w w' : World} (h : Below w.heap.size w w') : Stp rb w w' := ⟨h.os, h.tape, h.output, h.size, fun i hi _ => h.block i hi⟩
theorem Stp.set (rb : Nat) (w : World) (x : Value) (m : Nat) : Stp rb w ((w.setCell ⟨rb, 2, none⟩ x).drewN m) := by
  have h : Below 0 w ((w.setCell ⟨rb, 2, none⟩ x)) := (Below.refl 0 w).setCell (Nat.zero_le _) x
  exact ⟨h.os, h.tape, h.output, h.size, fun i _ hn => Below.heap_setCell w _ x i (by simpa using hn)⟩
theorem Stp.below {rb : Nat} {w w' : World} (h : Stp rb w w') (hr : rb ≤ w.heap.size) : Below rb w w' :=
  ⟨h.os, h.tape, h.output, h.size, fun i hi => h.block i (Nat.lt_of_lt_of_le hi hr) (by simp; omega)⟩

/-- The reader at work: made in world w0, which has all that it reads. -/
structure RX (w0 w : World) (vs vw : Value) (ws : List (List UInt8)) (taken : Nat) (errno : Int) (rule : Bool) : Prop where
  rd : RD w w0.heap.size vs vw taken errno rule
  bel : Below w0.heap.size w0 w
  reads : Reads w0 vw (ws.map fun l => .string (bs l))
  len : ws.length ≤ 1048577
  short : ∀ l ∈ ws, l.length ≤ 1048577

theorem RX.below {w0 w w' : World} {vs vw : Value} {ws : List (List UInt8)} {taken : Nat} {errno : Int} {rule : Bool} (h : RX w0 w vs vw ws taken errno rule) (hb : Below w.heap.size w w') : RX w0 w' vs vw ws taken errno rule :=
  ⟨h.rd.below hb, h.bel.trans (hb.mono (Nat.le_of_lt h.rd.lt)), h.reads, h.len, h.short⟩

theorem RX.apart {w0 w : World} {vs vw : Value} {ws : List (List UInt8)} {taken : Nat} {errno : Int} {rule : Bool} (h : RX w0 w vs vw ws taken errno rule) (hlt : taken < ws.length) :
    ∃ b off cap, vw = .slice (some ⟨b, off, none⟩) ws.length cap ∧ ¬ b = w0.heap.size ∧ w.cell? ⟨b, off + taken, none⟩ = some (.string (bs (wordAt ws taken))) := by
  obtain ⟨a, cap, rfl, hc⟩ := h.reads
  obtain ⟨b, off, rfl, hb, hx⟩ := hc taken (.string (bs (wordAt ws taken))) (by simp [wordAt, hlt])
  exact ⟨b, off, cap, by simp, Nat.ne_of_lt hb, (h.bel.cell (p := ⟨b, off + taken, none⟩) hb).trans hx⟩

theorem RX.word_len {w0 w : World} {vs vw : Value} {ws : List (List UInt8)} {taken : Nat} {errno : Int} {rule : Bool} (h : RX w0 w vs vw ws taken errno rule) (i : Nat) : (wordAt ws i).length ≤ 1048577 := by
  by_cases hi : i < ws.length
  · have e : wordAt ws i = ws[i] := by simp [wordAt, hi]
    rw [e]; exact h.short _ (List.getElem_mem hi)
  · have e : wordAt ws i = [] := by simp [wordAt, hi]
    rw [e]; simp

/-- The next word. -/
theorem xword (w0 w : World) (vs vw : Value) (ws : List (List UInt8)) (taken : Nat) (errno : Int) (rule : Bool) (h : RX w0 w vs vw ws taken errno rule) (ht : taken ≤ 16777216) :
    Calls Tryz.prog 57 #[.pointer (some ⟨w0.heap.size, 0, none⟩)] w fun e w' => e = .returned (.string (bs (wordAt ws taken))) ∧ RX w0 w' vs vw ws (taken + 1) errno rule ∧ Stp w0.heap.size w w' := by
  have key : Calls Tryz.prog 57 #[.pointer (some ⟨w0.heap.size, 0, none⟩)] w fun e w' => e = .returned (.string (bs (wordAt ws taken))) ∧ ∃ m, w' = (w.setCell ⟨w0.heap.size, 2, none⟩ (.int .i64 ((taken : Int) + 1))).drewN m := by
    by_cases hlt : taken < ws.length
    · obtain ⟨b, off, cap, rfl, hne, hc⟩ := h.apart hlt
      exact pword_in w _ b off _ cap taken _ h.rd.c2 h.rd.c1 h.rd.fz hne hlt h.len hc
    · have e : wordAt ws taken = [] := by simp [wordAt, hlt]
      rw [e]
      obtain ⟨a, cap, hv, _⟩ := h.reads
      rw [List.length_map] at hv
      exact pword_out w _ _ cap taken a h.rd.c2 (hv ▸ h.rd.c1) h.rd.fz (by omega) h.len ht
  refine key.mono ?_
  rintro e w' ⟨rfl, m, rfl⟩
  have hs := Stp.set w0.heap.size w (.int .i64 ((taken : Int) + 1)) m
  exact ⟨rfl, ⟨h.rd.step m, h.bel.trans (hs.below (Nat.le_of_lt h.rd.lt)), h.reads, h.len, h.short⟩, hs⟩

/-- What a reader of a number answers: the number, or an error. -/
def NumAns (o : Option Nat) (errno : Int) (e : Ending) (w' : World) : Prop :=
  match o with
  | some c => e = .returned (.tuple #[.int .i64 c, .nilIface])
  | none => ∃ te pe, e = .returned (.tuple #[.int .i64 0, .iface te pe]) ∧ Err w' errno (.iface te pe)

set_option maxRecDepth 10000 in
set_option maxHeartbeats 1000000 in
theorem xcolumn_yes (w0 w : World) (P : World → Prop) (x : List UInt8) (c : Nat) (hx : x.length ≤ 1048577) (hc : colRaw x = some c)
    (hw : Calls Tryz.prog 57 #[.pointer (some ⟨w0.heap.size, 0, none⟩)] w fun e w' => e = .returned (.string (bs x)) ∧ P w') :
    Calls Tryz.prog 88 #[.pointer (some ⟨w0.heap.size, 0, none⟩)] w fun e w' => e = .returned (.tuple #[.int .i64 c, .nilIface]) ∧ P w' := by
  have hr : ∀ w, Calls Tryz.prog 109 #[.string (bs x)] w fun e w' => e = .returned (.tuple #[.int .i64 c, .bool true]) ∧ w' = w := by
    intro w
    have := readColumn_any (bs x) w (by rw [bs_size]; unfold maxLen; omega)
    rw [show (bs x).data.toList = x from rfl, hc] at this
    exact this
  go_enter Tryz.func88, Tryz.ntmps88
  go_wp2_with (first
    | (go_at_call 57; with_reducible refine hw.mono ?_; rintro e w1 ⟨rfl, hP⟩)
    | (go_at_call 109; with_reducible refine (hr _).mono ?_; rintro e w2 ⟨rfl, rfl⟩))
  go_ret2
  exact ⟨rfl, hP⟩

set_option maxRecDepth 10000 in
set_option maxHeartbeats 1000000 in
theorem xcolumn_no (w0 w : World) (P : World → Prop) (x : List UInt8) (hx : x.length ≤ 1048577) (hc : colRaw x = none) (errno : Int)
    (hw : Calls Tryz.prog 57 #[.pointer (some ⟨w0.heap.size, 0, none⟩)] w fun e w' => e = .returned (.string (bs x)) ∧ P w')
    (hwr : ∀ w1 s, P w1 → Calls Tryz.prog 60 #[.pointer (some ⟨w0.heap.size, 0, none⟩), .string s] w1 fun e w' => ∃ te pe, e = .returned (.iface te pe) ∧ Err w' errno (.iface te pe) ∧ P w') :
    Calls Tryz.prog 88 #[.pointer (some ⟨w0.heap.size, 0, none⟩)] w fun e w' => (∃ te pe, e = .returned (.tuple #[.int .i64 0, .iface te pe]) ∧ Err w' errno (.iface te pe)) ∧ P w' := by
  have hr : ∀ w, Calls Tryz.prog 109 #[.string (bs x)] w fun e w' => e = .returned (.tuple #[.int .i64 0, .bool false]) ∧ w' = w := by
    intro w
    have := readColumn_any (bs x) w (by rw [bs_size]; unfold maxLen; omega)
    rw [show (bs x).data.toList = x from rfl, hc] at this
    exact this
  go_enter Tryz.func88, Tryz.ntmps88
  go_wp2_with (first
    | (go_at_call 57; with_reducible refine hw.mono ?_; rintro e w1 ⟨rfl, hP⟩)
    | (go_at_call 109; with_reducible refine (hr _).mono ?_; rintro e w2 ⟨rfl, rfl⟩)
    | (go_at_call 60; with_reducible refine (hwr _ _ hP).mono ?_; rintro e w3 ⟨te, pe, rfl, hE, hP3⟩))
  go_ret2
  exact ⟨⟨_, _, rfl, hE⟩, hP3⟩

/-- COL. -/
theorem xcolumn (w0 w : World) (vs vw : Value) (ws : List (List UInt8)) (taken : Nat) (errno : Int) (rule : Bool) (h : RX w0 w vs vw ws taken errno rule) (ht : taken ≤ 16777216) :
    Calls Tryz.prog 88 #[.pointer (some ⟨w0.heap.size, 0, none⟩)] w fun e w' => NumAns (colRaw (wordAt ws taken)) errno e w' ∧ RX w0 w' vs vw ws (taken + 1) errno rule ∧ Stp w0.heap.size w w' := by
  have hw := xword w0 w vs vw ws taken errno rule h ht
  cases hc : colRaw (wordAt ws taken) with
  | some c => exact xcolumn_yes w0 w _ _ c (h.word_len taken) hc hw
  | none =>
    refine xcolumn_no w0 w _ _ (h.word_len taken) hc errno hw ?_
    rintro w1 s ⟨hX, hS⟩
    refine (pwrong_any w1 w0.heap.size (taken + 1) errno s hX.rd.c2 hX.rd.c3 hX.rd.lt).mono ?_
    rintro e w' ⟨te, pe, rfl, hE, hb⟩
    exact ⟨te, pe, rfl, hE, hX.below hb, hS.trans (Stp.of_below hb)⟩
end Go.Proofs.YtiekijfmafklfaaGreatDoor
