import Derived.Test.YtiekijfmafklfaaGreatDoorProgJ
namespace Go.Proofs.YtiekijfmafklfaaGreatDoor
open Go.RowKit

/-- The reader in block rb: what it reads, and how far it has come. -/
structure RD (w : World) (rb : Nat) (vs vw : Value) (taken : Nat) (errno : Int) (rule : Bool) : Prop where
  c0 : w.cell? ⟨rb, 0, none⟩ = some vs
  c1 : w.cell? ⟨rb, 1, none⟩ = some vw
  c2 : w.cell? ⟨rb, 2, none⟩ = some (.int .i64 taken)
  c3 : w.cell? ⟨rb, 3, none⟩ = some (.int .i64 errno)
  c4 : w.cell? ⟨rb, 4, none⟩ = some (.bool rule)
  fz : w.frozen? ⟨rb, 2, none⟩ = false
  lt : rb < w.heap.size

theorem RD.below {w w' : World} {rb : Nat} {vs vw : Value} {taken : Nat} {errno : Int} {rule : Bool} (h : RD w rb vs vw taken errno rule) (hb : Below w.heap.size w w') : RD w' rb vs vw taken errno rule :=
  ⟨(hb.cell (p := ⟨rb, 0, none⟩) h.lt).trans h.c0, (hb.cell (p := ⟨rb, 1, none⟩) h.lt).trans h.c1, (hb.cell (p := ⟨rb, 2, none⟩) h.lt).trans h.c2, (hb.cell (p := ⟨rb, 3, none⟩) h.lt).trans h.c3,
    (hb.cell (p := ⟨rb, 4, none⟩) h.lt).trans h.c4, (hb.frozen (p := ⟨rb, 2, none⟩) h.lt).trans h.fz, Nat.lt_of_lt_of_le h.lt hb.size⟩

theorem RD.step {w : World} {rb : Nat} {vs vw : Value} {taken : Nat} {errno : Int} {rule : Bool} (h : RD w rb vs vw taken errno rule) (m : Nat) : RD ((w.setCell ⟨rb, 2, none⟩ (.int .i64 ((taken : Int) + 1))).drewN m) rb vs vw (taken + 1) errno rule := by
  have e : ∀ i, i ≠ 2 → ((w.setCell ⟨rb, 2, none⟩ (.int .i64 ((taken : Int) + 1))).drewN m).cell? ⟨rb, i, none⟩ = w.cell? ⟨rb, i, none⟩ := by
    intro i hi
    rw [World.cell?_drewN, World.cell?_setCell_other]
    simp only [ne_eq, Addr.mk.injEq, not_and]
    omega
  refine ⟨(e 0 (by decide)).trans h.c0, (e 1 (by decide)).trans h.c1, ?_, (e 3 (by decide)).trans h.c3, (e 4 (by decide)).trans h.c4, ?_, ?_⟩
  · rw [World.cell?_drewN, World.cell?_setCell_same _ _ _ h.c2]; simp
  · simpa using h.fz
  · simpa using h.lt

set_option maxRecDepth 10000 in
set_option maxHeartbeats 1000000 in
theorem pword_in (w : World) (rb bw offw n cap taken : Nat) (x : List UInt8) (hr2 : w.cell? ⟨rb, 2, none⟩ = some (.int .i64 taken)) (hr1 : w.cell? ⟨rb, 1, none⟩ = some (.slice (some ⟨bw, offw, none⟩) n cap)) (hfz : w.frozen? ⟨rb, 2, none⟩ = false)
    (hne : ¬ bw = rb) (ht : taken < n) (hn : n ≤ 1048577) (hx : w.cell? ⟨bw, offw + taken, none⟩ = some (.string (bs x))) :
    Calls Tryz.prog 57 #[.pointer (some ⟨rb, 0, none⟩)] w fun e w' => e = .returned (.string (bs x)) ∧ ∃ m, w' = (w.setCell ⟨rb, 2, none⟩ (.int .i64 ((taken : Int) + 1))).drewN m := by
  have s2 : (w.setCell ⟨rb, 2, none⟩ (.int .i64 ((taken : Int) + 1))).cell? ⟨rb, 2, none⟩ = some (.int .i64 ((taken : Int) + 1)) := World.cell?_setCell_same _ _ _ hr2
  have s1 : (w.setCell ⟨rb, 2, none⟩ (.int .i64 ((taken : Int) + 1))).cell? ⟨rb, 1, none⟩ = some (.slice (some ⟨bw, offw, none⟩) n cap) := by
    rw [World.cell?_setCell_other]
    · exact hr1
    · simp
  have sx : (w.setCell ⟨rb, 2, none⟩ (.int .i64 ((taken : Int) + 1))).cell? ⟨bw, offw + taken, none⟩ = some (.string (bs x)) := by
    rw [World.cell?_setCell_other]
    · exact hx
    · simp only [ne_eq, Addr.mk.injEq, not_and]; intro h; exact absurd h.symm hne
  have h1 : ¬ ((n : Int) < (taken : Int) + 1) := by omega
  have h2 : (taken : Int) < (n : Int) := by omega
  have h3 : IntKind.i64.wrap ((taken : Int) + 1 - 1) = (taken : Int) := by rw [IntWalk.i64_in _ (by omega)]; omega
  go_enter Tryz.func57, Tryz.ntmps57
  go_wp2
  go_quiet (fail)
  go_wp2
  go_quiet (fail)
  go_wp2
  go_ret
  all_goals refine ⟨rfl, ?_⟩
  all_goals simp
  all_goals exact ⟨_, rfl⟩

set_option maxRecDepth 10000 in
set_option maxHeartbeats 1000000 in
theorem pword_out (w : World) (rb n cap taken : Nat) (a : Option Addr) (hr2 : w.cell? ⟨rb, 2, none⟩ = some (.int .i64 taken)) (hr1 : w.cell? ⟨rb, 1, none⟩ = some (.slice a n cap)) (hfz : w.frozen? ⟨rb, 2, none⟩ = false)
    (ht : n ≤ taken) (_hn : n ≤ 1048577) (ht2 : taken ≤ 16777216) :
    Calls Tryz.prog 57 #[.pointer (some ⟨rb, 0, none⟩)] w fun e w' => e = .returned (.string (bs [])) ∧ ∃ m, w' = (w.setCell ⟨rb, 2, none⟩ (.int .i64 ((taken : Int) + 1))).drewN m := by
  have s2 : (w.setCell ⟨rb, 2, none⟩ (.int .i64 ((taken : Int) + 1))).cell? ⟨rb, 2, none⟩ = some (.int .i64 ((taken : Int) + 1)) := World.cell?_setCell_same _ _ _ hr2
  have s1 : (w.setCell ⟨rb, 2, none⟩ (.int .i64 ((taken : Int) + 1))).cell? ⟨rb, 1, none⟩ = some (.slice a n cap) := by
    rw [World.cell?_setCell_other]
    · exact hr1
    · simp
  have h1 : (n : Int) < (taken : Int) + 1 := by omega
  go_enter Tryz.func57, Tryz.ntmps57
  go_wp2
  go_quiet (fail)
  go_wp2
  go_ret
  exact ⟨rfl, _, by first | rfl | simp⟩

/-- The next word; empty behind the last one. -/
theorem pword_any (w : World) (rb : Nat) (vs vw : Value) (taken : Nat) (errno : Int) (rule : Bool) (ws : List (List UInt8)) (h : RD w rb vs vw taken errno rule) (hv : Reads w vw (ws.map fun l => .string (bs l))) (hl : ws.length ≤ 1048577) (ht : taken ≤ 16777216)
    (hne : ∀ bw off n cap, vw = .slice (some ⟨bw, off, none⟩) n cap → ¬ bw = rb) :
    Calls Tryz.prog 57 #[.pointer (some ⟨rb, 0, none⟩)] w fun e w' => e = .returned (.string (bs (wordAt ws taken))) ∧ ∃ m, w' = (w.setCell ⟨rb, 2, none⟩ (.int .i64 ((taken : Int) + 1))).drewN m := by
  by_cases hlt : taken < ws.length
  · obtain ⟨b, off, cap, rfl, hc⟩ := hv.row hlt
    exact pword_in w rb b off _ cap taken _ h.c2 h.c1 h.fz (hne _ _ _ _ rfl) hlt hl (hc taken hlt)
  · have e : wordAt ws taken = [] := by simp [wordAt, hlt]
    rw [e]
    obtain ⟨a, cap, rfl, _⟩ := hv
    rw [List.length_map] at h
    exact pword_out w rb _ cap taken a h.c2 h.c1 h.fz (by omega) hl ht

set_option maxRecDepth 10000 in
set_option maxHeartbeats 1000000 in
theorem pfault_any (w : World) (rb : Nat) (errno : Int) (s : ByteArray) (hr3 : w.cell? ⟨rb, 3, none⟩ = some (.int .i64 errno)) :
    Calls Tryz.prog 27 #[.pointer (some ⟨rb, 0, none⟩), .string s] w fun e w' => e = .returned (.iface 73 (.pointer (some ⟨w.heap.size, 0, none⟩))) ∧ w' = w.alloc (.cells #[.int .i64 errno, .string s] 77) := by
  go_enter Tryz.func27, Tryz.ntmps27
  go_wp2
  go_ret
  exact ⟨rfl, rfl⟩

set_option maxRecDepth 10000 in
set_option maxHeartbeats 1000000 in
theorem pplace_any (w : World) (rb taken : Nat) (hr2 : w.cell? ⟨rb, 2, none⟩ = some (.int .i64 taken)) (ht : taken ≤ 16777216) :
    Calls Tryz.prog 49 #[.pointer (some ⟨rb, 0, none⟩)] w fun e w' => e = .returned (.int .i64 ((taken : Int) + 1)) ∧ w' = w := by
  go_enter Tryz.func49, Tryz.ntmps49
  go_wp2
  go_ret
  exact ⟨rfl, rfl⟩
end Go.Proofs.YtiekijfmafklfaaGreatDoor
