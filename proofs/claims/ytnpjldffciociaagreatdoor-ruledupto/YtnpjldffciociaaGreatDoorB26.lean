import Derived.Test.YtnpjldffciociaaGreatDoorB25
import Derived.BigQuiet
namespace Go.Proofs.YtnpjldffciociaaGreatDoor
open Go.RowKit

theorem quiet_c {P : Program} {f : FuncId} {args : Array Value} {w : World} {v : Value} (h : ∀ m, Calls P f args (w.drewN m) fun e w' => e = .returned v ∧ w' = w.drewN m) (m : Nat) :
    Calls P f args (w.drewN m) fun e w'' => e = .returned v ∧ ∃ k, w'' = w.drewN k := (h m).mono fun _ _ ⟨he, hw⟩ => ⟨he, m, hw⟩
theorem quiet_d {P : Program} {f : FuncId} {args : Array Value} {w : World} {v : Value} (h : ∀ m, Calls P f args (w.drewN m) fun e w' => e = .returned v ∧ w' = w.drewN m) (n m : Nat) :
    Calls P f args (w.drewN (n + m)) fun e w'' => e = .returned v ∧ ∃ k, w'' = w.drewN (n + k) := (h (n + m)).mono fun _ _ ⟨he, hw⟩ => ⟨he, m, hw⟩
theorem quiet_e {P : Program} {f : FuncId} {args : Array Value} {w : World} {v : Value} (h : ∀ m, Calls P f args (w.drewN m) fun e w' => e = .returned v ∧ w' = w.drewN m) (n m : Nat) :
    Calls P f args (w.drewN (n + m)) fun e w'' => e = .returned v ∧ ∃ k, w'' = (w.drewN n).drewN k := (h (n + m)).mono fun _ _ ⟨he, hw⟩ => ⟨he, m, by rw [hw, World.drewN_drewN]⟩
theorem CBk.cells {w : World} {b : Nat} {r : Raw} (h : CBk w b r) : w.cell? ⟨b, 0, none⟩ = some (.int .i64 r.test) ∧ w.cell? ⟨b, 1, none⟩ = some (.int .i64 r.col) ∧ w.cell? ⟨b, 2, none⟩ = some (.int .i64 r.vt) ∧ w.cell? ⟨b, 6, none⟩ = some (.int .i64 r.other) ∧
    w.cell? ⟨b, 7, none⟩ = some (.int .i64 r.table) ∧ w.cell? ⟨b, 8, none⟩ = some (.int .i64 r.mtch) ∧ w.cell? ⟨b, 9, none⟩ = some (.int .i64 r.who) ∧ w.cell? ⟨b, 10, none⟩ = some r.parts ∧ w.cell? ⟨b, 11, none⟩ = some (.int .i64 r.pl) := by
  refine ⟨?_, ?_, ?_, ?_, ?_, ?_, ?_, ?_, ?_⟩ <;> (rw [Lib.cell_of_heap h]; rfl)

set_option maxRecDepth 10000 in
set_option maxHeartbeats 1000000 in
theorem pfits_true (rb b : Nat) (vt : Value) (w : World) (t : Int) (c0 : w.cell? ⟨b, 0, none⟩ = some (.int .i64 t)) (ht : t = 0 ∨ t = 4 ∨ t = 5 ∨ t = 6) :
    Calls Tryz.prog 288 #[.pointer (some ⟨rb, 0, none⟩), .pointer (some ⟨b, 0, none⟩), vt] w fun e w' => e = .returned (.bool true) ∧ w' = w := by
  rcases ht with rfl | rfl | rfl | rfl
  all_goals
    go_enter Tryz.func288, Tryz.ntmps288
    go_wp2
    go_ret
    exact ⟨rfl, rfl⟩
set_option maxRecDepth 10000 in
set_option maxHeartbeats 1000000 in
theorem pfits_val (rb b a : Nat) (vt : Value) (w : World) (t x y : Int) (c0 : w.cell? ⟨b, 0, none⟩ = some (.int .i64 t)) (ht : t = 1 ∨ t = 2) (c1 : w.cell? ⟨b, 1, none⟩ = some (.int .i64 a)) (c2 : w.cell? ⟨b, 2, none⟩ = some (.int .i64 y))
    (hT : ∀ m, Calls Tryz.prog 212 #[vt, .int .i64 a] (w.drewN m) fun e w' => e = .returned (.int .i64 x) ∧ w' = w.drewN m) :
    Calls Tryz.prog 288 #[.pointer (some ⟨rb, 0, none⟩), .pointer (some ⟨b, 0, none⟩), vt] w fun e w' => e = .returned (.bool (decide (x = y))) ∧ ∃ n, w' = w.drewN n := by
  rcases ht with rfl | rfl
  all_goals
    go_enter Tryz.func288, Tryz.ntmps288
    go_wp2
    go_quiet (first | (go_at_call 212; exact quiet_c hT _) | (go_at_call 212; exact quiet_d hT _ _) | (go_at_call 212; exact quiet_e hT _ _))
    go_wp2
    go_ret
    exact ⟨ret_bool rfl, nq, rfl⟩
set_option maxRecDepth 10000 in
set_option maxHeartbeats 1000000 in
theorem pfits_same (rb b a o : Nat) (vt : Value) (w : World) (x : Bool) (c0 : w.cell? ⟨b, 0, none⟩ = some (.int .i64 3)) (c1 : w.cell? ⟨b, 1, none⟩ = some (.int .i64 a)) (c6 : w.cell? ⟨b, 6, none⟩ = some (.int .i64 o))
    (hT : ∀ m, Calls Tryz.prog 248 #[vt, .int .i64 a, vt, .int .i64 o] (w.drewN m) fun e w' => e = .returned (.bool x) ∧ w' = w.drewN m) :
    Calls Tryz.prog 288 #[.pointer (some ⟨rb, 0, none⟩), .pointer (some ⟨b, 0, none⟩), vt] w fun e w' => e = .returned (.bool x) ∧ ∃ n, w' = w.drewN n := by
  go_enter Tryz.func288, Tryz.ntmps288
  go_wp2
  go_quiet (first | (go_at_call 248; exact quiet_c hT _) | (go_at_call 248; exact quiet_d hT _ _) | (go_at_call 248; exact quiet_e hT _ _))
  go_wp2
  go_ret
  exact ⟨rfl, nq, rfl⟩
set_option maxRecDepth 10000 in
set_option maxHeartbeats 2000000 in
theorem pfits_in (rb b a t m o sb soff sn scap : Nat) (vt tv : Value) (w : World) (x : Bool) (y : Int) (c0 : w.cell? ⟨b, 0, none⟩ = some (.int .i64 7)) (c1 : w.cell? ⟨b, 1, none⟩ = some (.int .i64 a)) (c7 : w.cell? ⟨b, 7, none⟩ = some (.int .i64 t)) (c8 : w.cell? ⟨b, 8, none⟩ = some (.int .i64 m)) (c9 : w.cell? ⟨b, 9, none⟩ = some (.int .i64 o))
    (r0 : w.cell? ⟨rb, 0, none⟩ = some (.slice (some ⟨sb, soff, none⟩) sn scap)) (ht : t < sn) (_hsn : sn ≤ 1048577) (hs : w.cell? ⟨sb, soff + t * 2 + 1, none⟩ = some tv)
    (hA : ∀ k, Calls Tryz.prog 248 #[vt, .int .i64 a, tv, .int .i64 m] (w.drewN k) fun e w' => e = .returned (.bool x) ∧ w' = w.drewN k)
    (hT : ∀ k, Calls Tryz.prog 212 #[tv, .int .i64 o] (w.drewN k) fun e w' => e = .returned (.int .i64 y) ∧ w' = w.drewN k) :
    Calls Tryz.prog 288 #[.pointer (some ⟨rb, 0, none⟩), .pointer (some ⟨b, 0, none⟩), vt] w fun e w' => e = .returned (.bool (x && decide (y = 2))) ∧ ∃ n, w' = w.drewN n := by
  have hi : 0 ≤ (t : Int) ∧ (t : Int) < sn := by omega
  have hi2 : (t : Int) < sn := by omega
  cases x
  all_goals
    go_enter Tryz.func288, Tryz.ntmps288
    go_wp2
    go_quiet (fail)
    go_wp2
    go_quiet (first
      | (go_at_call 248; exact quiet_c hA _) | (go_at_call 248; exact quiet_d hA _ _) | (go_at_call 248; exact quiet_e hA _ _)
      | (go_at_call 212; exact quiet_c hT _) | (go_at_call 212; exact quiet_d hT _ _) | (go_at_call 212; exact quiet_e hT _ _))
    go_wp2
    go_ret
    exact ⟨ret_bool (by first | rfl | simp), _, World.drewN_drewN ..⟩
end Go.Proofs.YtnpjldffciociaaGreatDoor
namespace Go.Proofs.YtnpjldffciociaaGreatDoor
open Go.RowKit

set_option maxRecDepth 10000 in
set_option maxHeartbeats 1000000 in
theorem pparts_0 (rb b : Nat) (vt : Value) (w : World) (c10 : w.cell? ⟨b, 10, none⟩ = some (.slice none 0 0)) :
    Calls Tryz.prog 287 #[.pointer (some ⟨rb, 0, none⟩), .pointer (some ⟨b, 0, none⟩), vt] w fun e w' => e = .returned .nilIface ∧ w' = w := by
  go_enter Tryz.func287, Tryz.ntmps287
  go_wp2
  refine wp_loop_rounds 1 ?_
  rw [rounds_succ]
  go_wp2
  go_ret
  exact ⟨rfl, rfl⟩
set_option maxRecDepth 10000 in
set_option maxHeartbeats 1000000 in
theorem pparts_no (rb b g n cap b1 : Nat) (hn : 0 < n) (_hn2 : n ≤ 2) (vt : Value) (w : World) (R : Value → World → Prop) (c10 : w.cell? ⟨b, 10, none⟩ = some (.slice (some ⟨g, 0, none⟩) n cap)) (cg : w.cell? ⟨g, 0, none⟩ = some (.pointer (some ⟨b1, 0, none⟩)))
    (hf : Calls Tryz.prog 244 #[.pointer (some ⟨rb, 0, none⟩), .pointer (some ⟨b1, 0, none⟩), vt] w fun e w' => ∃ te pe, e = .returned (.iface te pe) ∧ R (.iface te pe) w') :
    Calls Tryz.prog 287 #[.pointer (some ⟨rb, 0, none⟩), .pointer (some ⟨b, 0, none⟩), vt] w fun e w' => ∃ te pe, e = .returned (.iface te pe) ∧ R (.iface te pe) w' := by
  go_enter Tryz.func287, Tryz.ntmps287
  go_wp2
  refine wp_loop_rounds 1 ?_
  rw [rounds_succ]
  go_wp2_with (go_at_call 244; refine hf.mono ?_; rintro e w1 ⟨te, pe, rfl, hR⟩)
  go_ret
  exact ⟨te, pe, rfl, hR⟩
set_option maxRecDepth 10000 in
set_option maxHeartbeats 1000000 in
theorem pparts_1 (rb b g cap b1 : Nat) (vt : Value) (w : World) (P : World → Prop) (c10 : w.cell? ⟨b, 10, none⟩ = some (.slice (some ⟨g, 0, none⟩) 1 cap)) (cg : w.cell? ⟨g, 0, none⟩ = some (.pointer (some ⟨b1, 0, none⟩)))
    (hf : Calls Tryz.prog 244 #[.pointer (some ⟨rb, 0, none⟩), .pointer (some ⟨b1, 0, none⟩), vt] w fun e w' => e = .returned .nilIface ∧ P w') :
    Calls Tryz.prog 287 #[.pointer (some ⟨rb, 0, none⟩), .pointer (some ⟨b, 0, none⟩), vt] w fun e w' => e = .returned .nilIface ∧ P w' := by
  go_enter Tryz.func287, Tryz.ntmps287
  go_wp2
  refine wp_loop_rounds 2 ?_
  rw [rounds_succ]
  go_wp2_with (go_at_call 244; refine hf.mono ?_; rintro e w1 ⟨rfl, hP⟩)
  rw [rounds_succ]
  go_wp2
  go_ret
  exact ⟨rfl, hP⟩
set_option maxRecDepth 10000 in
set_option maxHeartbeats 1000000 in
theorem pparts_2 (rb b g cap b1 b2 : Nat) (vt : Value) (w : World) (P : World → Prop) (R : Ending → World → Prop) (c10 : w.cell? ⟨b, 10, none⟩ = some (.slice (some ⟨g, 0, none⟩) 2 cap)) (cg : w.cell? ⟨g, 0, none⟩ = some (.pointer (some ⟨b1, 0, none⟩)))
    (hf : Calls Tryz.prog 244 #[.pointer (some ⟨rb, 0, none⟩), .pointer (some ⟨b1, 0, none⟩), vt] w fun e w' => e = .returned .nilIface ∧ w'.cell? ⟨g, 1, none⟩ = some (.pointer (some ⟨b2, 0, none⟩)) ∧ P w')
    (hf2 : ∀ w1, P w1 → Calls Tryz.prog 244 #[.pointer (some ⟨rb, 0, none⟩), .pointer (some ⟨b2, 0, none⟩), vt] w1 fun e w' => e = .returned .nilIface ∧ R e w') :
    Calls Tryz.prog 287 #[.pointer (some ⟨rb, 0, none⟩), .pointer (some ⟨b, 0, none⟩), vt] w fun e w' => e = .returned .nilIface ∧ R e w' := by
  go_enter Tryz.func287, Tryz.ntmps287
  go_wp2
  refine wp_loop_rounds 3 ?_
  rw [rounds_succ]
  go_wp2_with (go_at_call 244; refine hf.mono ?_; rintro e w1 ⟨rfl, cg1, hP⟩)
  have h2 := hf2 _ hP
  rw [rounds_succ]
  go_wp2_with (go_at_call 244; refine h2.mono ?_; rintro e w2 ⟨rfl, hR⟩)
  rw [rounds_succ]
  go_wp2
  go_ret
  exact ⟨rfl, hR⟩
set_option maxRecDepth 10000 in
set_option maxHeartbeats 1000000 in
theorem pparts_2no (rb b g cap b1 b2 : Nat) (vt : Value) (w : World) (P : World → Prop) (R : Value → World → Prop) (c10 : w.cell? ⟨b, 10, none⟩ = some (.slice (some ⟨g, 0, none⟩) 2 cap)) (cg : w.cell? ⟨g, 0, none⟩ = some (.pointer (some ⟨b1, 0, none⟩)))
    (hf : Calls Tryz.prog 244 #[.pointer (some ⟨rb, 0, none⟩), .pointer (some ⟨b1, 0, none⟩), vt] w fun e w' => e = .returned .nilIface ∧ w'.cell? ⟨g, 1, none⟩ = some (.pointer (some ⟨b2, 0, none⟩)) ∧ P w')
    (hf2 : ∀ w1, P w1 → Calls Tryz.prog 244 #[.pointer (some ⟨rb, 0, none⟩), .pointer (some ⟨b2, 0, none⟩), vt] w1 fun e w' => ∃ te pe, e = .returned (.iface te pe) ∧ R (.iface te pe) w') :
    Calls Tryz.prog 287 #[.pointer (some ⟨rb, 0, none⟩), .pointer (some ⟨b, 0, none⟩), vt] w fun e w' => ∃ te pe, e = .returned (.iface te pe) ∧ R (.iface te pe) w' := by
  go_enter Tryz.func287, Tryz.ntmps287
  go_wp2
  refine wp_loop_rounds 2 ?_
  rw [rounds_succ]
  go_wp2_with (go_at_call 244; refine hf.mono ?_; rintro e w1 ⟨rfl, cg1, hP⟩)
  have h2 := hf2 _ hP
  rw [rounds_succ]
  go_wp2_with (go_at_call 244; refine h2.mono ?_; rintro e w2 ⟨te, pe, rfl, hR⟩)
  go_ret
  exact ⟨te, pe, rfl, hR⟩

set_option maxRecDepth 10000 in
set_option maxHeartbeats 1000000 in
theorem pfit_parts (rb b : Nat) (vt : Value) (w : World) (errno : Int) (P : World → Prop)
    (hp : Calls Tryz.prog 287 #[.pointer (some ⟨rb, 0, none⟩), .pointer (some ⟨b, 0, none⟩), vt] w fun e w' => ∃ te pe, e = .returned (.iface te pe) ∧ Err w' errno (.iface te pe) ∧ (∃ p, w'.cell? ⟨b, 11, none⟩ = some (.int .i64 p)) ∧ P w') :
    Calls Tryz.prog 244 #[.pointer (some ⟨rb, 0, none⟩), .pointer (some ⟨b, 0, none⟩), vt] w fun e w' => ∃ te pe w1, e = .returned (.iface te pe) ∧ Err w' errno (.iface te pe) ∧ P w1 ∧ Below w1.heap.size w1 w' := by
  go_enter Tryz.func244, Tryz.ntmps244
  go_wp2_with (go_at_call 287; refine hp.mono ?_; rintro e w1 ⟨te, pe, rfl, hE, ⟨p, hc⟩, hP⟩)
  go_ret
  exact ⟨_, _, w1, rfl, hE.wrap _ _, hP, (Below.refl _ _).alloc (Nat.le_refl _) _⟩
set_option maxRecDepth 10000 in
set_option maxHeartbeats 1000000 in
theorem pfit_yes (rb b : Nat) (vt : Value) (w : World) (P Q : World → Prop)
    (hp : Calls Tryz.prog 287 #[.pointer (some ⟨rb, 0, none⟩), .pointer (some ⟨b, 0, none⟩), vt] w fun e w' => e = .returned .nilIface ∧ P w')
    (hf : ∀ w1, P w1 → Calls Tryz.prog 288 #[.pointer (some ⟨rb, 0, none⟩), .pointer (some ⟨b, 0, none⟩), vt] w1 fun e w' => e = .returned (.bool true) ∧ Q w') :
    Calls Tryz.prog 244 #[.pointer (some ⟨rb, 0, none⟩), .pointer (some ⟨b, 0, none⟩), vt] w fun e w' => e = .returned .nilIface ∧ Q w' := by
  go_enter Tryz.func244, Tryz.ntmps244
  go_wp2_with (first
    | (go_at_call 287; refine hp.mono ?_; rintro e w1 ⟨rfl, hP⟩)
    | (go_at_call 288; refine (hf _ hP).mono ?_; rintro e w2 ⟨rfl, hQ⟩))
  go_ret
  exact ⟨rfl, hQ⟩
set_option maxRecDepth 10000 in
set_option maxHeartbeats 1000000 in
theorem pfit_no (rb b : Nat) (vt : Value) (w : World) (errno : Int) (P Q : World → Prop)
    (hp : Calls Tryz.prog 287 #[.pointer (some ⟨rb, 0, none⟩), .pointer (some ⟨b, 0, none⟩), vt] w fun e w' => e = .returned .nilIface ∧ P w')
    (hf : ∀ w1, P w1 → Calls Tryz.prog 288 #[.pointer (some ⟨rb, 0, none⟩), .pointer (some ⟨b, 0, none⟩), vt] w1 fun e w' => e = .returned (.bool false) ∧ Q w')
    (hfl : ∀ w1 s, Q w1 → Calls Tryz.prog 98 #[.pointer (some ⟨rb, 0, none⟩), .string s] w1 fun e w' => ∃ te pe, e = .returned (.iface te pe) ∧ Err w' errno (.iface te pe) ∧ (∃ p, w'.cell? ⟨b, 11, none⟩ = some (.int .i64 p)) ∧ Q w') :
    Calls Tryz.prog 244 #[.pointer (some ⟨rb, 0, none⟩), .pointer (some ⟨b, 0, none⟩), vt] w fun e w' => ∃ te pe w1, e = .returned (.iface te pe) ∧ Err w' errno (.iface te pe) ∧ Q w1 ∧ Below w1.heap.size w1 w' := by
  go_enter Tryz.func244, Tryz.ntmps244
  go_wp2_with (first
    | (go_at_call 287; refine hp.mono ?_; rintro e w1 ⟨rfl, hP⟩)
    | (go_at_call 288; refine (hf _ hP).mono ?_; rintro e w2 ⟨rfl, hQ⟩)
    | (go_at_call 98; refine (hfl _ _ hQ).mono ?_; rintro e w3 ⟨te, pe, rfl, hE, ⟨p, hc⟩, hQ3⟩))
  go_ret
  exact ⟨_, _, w3, rfl, hE.wrap _ _, hQ3, (Below.refl _ _).alloc (Nat.le_refl _) _⟩
end Go.Proofs.YtnpjldffciociaaGreatDoor
namespace Go.Proofs.YtnpjldffciociaaGreatDoor
open Go.RowKit

/-- Columns and tables that a text can name. -/
def OkC (ts : List (List UInt8 × List Bool)) : Cnd → Prop
  | ⟨[], none⟩ => True
  | ⟨[], some (.inl (a, _))⟩ => a < 9
  | ⟨[], some (.inr (.inl (a, b)))⟩ => a < 9 ∧ b < 9
  | ⟨[], some (.inr (.inr (a, t, m, o)))⟩ => a < 9 ∧ t < ts.length ∧ m < 9 ∧ o < 9
  | ⟨[c], _⟩ => OkC ts c
  | ⟨[c, d], _⟩ => OkC ts c ∧ OkC ts d
  | ⟨_ :: _ :: _ :: _, _⟩ => False
theorem colRaw_ok {x : List UInt8} {a : Nat} (h : colRaw x = some a) : a < 9 := (colOf_lt h).1
theorem parse_ok (ts : List (List UInt8 × List Bool)) (law : Bool) (ws : List (List UInt8)) : ∀ (k i : Nat) (c : Cnd) (j : Nat), parseC ts law ws k i = some (c, j) → OkC ts c := by
  intro k
  induction k with
  | zero => intro i c j h; cases h
  | succ k ih =>
    intro i c j h
    rw [parseC] at h
    split at h
    · cases h; exact trivial
    · split at h
      · cases h
      · rename_i a ha
        split at h
        · split at h
          · cases h; exact colRaw_ok ha
          · split at h
            · cases h
            · cases h; exact colRaw_ok ha
        · split at h
          · split at h
            · cases h; exact colRaw_ok ha
            · cases h
          · split at h
            · cases h
            · rename_i hb; cases h; exact ⟨colRaw_ok ha, colRaw_ok hb⟩
    · split at h
      · split at h
        · cases h
        · rename_i ha
          split at h
          · cases h
          · rename_i hf
            split at h
            · cases h
            · rename_i hm
              split at h
              · cases h
              · rename_i ho; cases h
                exact ⟨colRaw_ok ha, findT_lt hf, colRaw_ok hm, colRaw_ok ho⟩
      · cases h
    · split at h
      · cases h
      · rename_i hc; cases h
        have hh := ih _ _ _ hc
        exact hh
    · split at h
      · cases h
      · rename_i hc
        split at h
        · cases h
        · rename_i hd; cases h
          exact ⟨ih _ _ _ hc, ih _ _ _ hd⟩
    · cases h
theorem tnum_inj {a b : Bool} : tnum a = tnum b ↔ a = b := by cases a <;> cases b <;> decide
theorem tnum_ne (a : Bool) : tnum a ≠ 0 := by cases a <;> decide
theorem type_val (text : List Bool) (a : Nat) (b : Bool) : decide (typeNum text a = tnum b) = (text[a]? == some b) := by
  unfold typeNum
  cases h : text[a]? with
  | none => simp [(tnum_ne b).symm]
  | some x => simp [tnum_inj]; cases x <;> cases b <;> rfl
theorem type_alike (text other : List Bool) (a b : Nat) : (decide (typeNum text a ≠ 0) && decide (typeNum text a = typeNum other b)) = (text[a]?.isSome && (text[a]? == other[b]?)) := by
  unfold typeNum
  cases h : text[a]? with
  | none => simp
  | some x =>
    cases h2 : other[b]? with
    | none => simp [tnum_ne]
    | some y => simp [tnum_ne, tnum_inj]; cases x <;> cases y <;> rfl

def FitAns (ok : Bool) (errno : Int) (e : Ending) (w' : World) : Prop := if ok then e = .returned .nilIface else ∃ te pe, e = .returned (.iface te pe) ∧ Err w' errno (.iface te pe)
theorem below_drewN' (w : World) (n : Nat) : Below w.heap.size w (w.drewN n) := ⟨rfl, rfl, rfl, Nat.le_refl _, fun _ _ => rfl⟩

/-- Does it fit, but for its parts? -/
def ownFit (ts : List (List UInt8 × List Bool)) (text : List Bool) : Cnd → Bool
  | ⟨[], none⟩ => true
  | ⟨[], some (.inl (a, b))⟩ => fitC ts text (.val a b)
  | ⟨[], some (.inr (.inl (a, b)))⟩ => fitC ts text (.same a b)
  | ⟨[], some (.inr (.inr (a, t, m, o)))⟩ => fitC ts text (.isin a t m o)
  | ⟨[_], _⟩ => true
  | ⟨[_, _], _⟩ => true
  | ⟨_ :: _ :: _ :: _, _⟩ => true
/-- Does it fit? The parts said so. -/
theorem xfits (w0 w : World) (vs vw vt : Value) (ts : List (List UInt8 × List Bool)) (text : List Bool) (ws : List (List UInt8)) (taken : Nat) (errno : Int) (rule : Bool) (hs : ReadsTabs tcode w0 vs ts) (hl : ts.length ≤ 1048577) (hlc : ∀ t, (ts.getD t ([], [])).2.length ≤ 1048577) (hvw : Reads w vt (text.map tcode)) (hxl : text.length ≤ 1048577)
    (hX : RX w0 w vs vw ws taken errno rule) (c : Cnd) (hi lo b : Nat) (hC : CndAt hi w c lo b) (hok : OkC ts c) (x : Bool) (hx : x = ownFit ts text c) :
    Calls Tryz.prog 288 #[.pointer (some ⟨w0.heap.size, 0, none⟩), .pointer (some ⟨b, 0, none⟩), vt] w fun e w' => e = .returned (.bool x) ∧ Below w.heap.size w w' := by
  have hT : ∀ (a : Nat), a < 9 → ∀ m, Calls Tryz.prog 212 #[vt, .int .i64 a] (w.drewN m) fun e w' => e = .returned (.int .i64 (typeNum text a)) ∧ w' = w.drewN m := fun a ha m => ptypeAt_any (w.drewN m) vt text a hvw hxl (by omega)
  have hq : ∀ {y : Bool}, (Calls Tryz.prog 288 #[.pointer (some ⟨w0.heap.size, 0, none⟩), .pointer (some ⟨b, 0, none⟩), vt] w fun e w' => e = .returned (.bool y) ∧ ∃ n, w' = w.drewN n) → y = x →
      Calls Tryz.prog 288 #[.pointer (some ⟨w0.heap.size, 0, none⟩), .pointer (some ⟨b, 0, none⟩), vt] w fun e w' => e = .returned (.bool x) ∧ Below w.heap.size w w' := by
    rintro y h rfl
    refine h.mono ?_
    rintro e w' ⟨rfl, n, rfl⟩
    exact ⟨rfl, below_drewN' w n⟩
  induction c using Cnd.ind with
  | any =>
    obtain ⟨_, _, r, hr, ht, _⟩ := hC
    obtain ⟨c0, _⟩ := hr.cells
    rw [ht] at c0
    refine hq ((pfits_true _ b vt w 0 c0 (Or.inl rfl)).mono ?_) hx.symm
    rintro e w' ⟨rfl, rfl⟩; exact ⟨rfl, 0, rfl⟩
  | val a y =>
    obtain ⟨_, _, r, hr, ht, hc, hvt, _⟩ := hC
    obtain ⟨c0, c1, c2, _⟩ := hr.cells
    rw [hc] at c1
    rw [hvt] at c2
    refine hq (pfits_val _ b a vt w r.test _ _ c0 ht c1 c2 (hT a hok)) ?_
    rw [hx, type_val]; rfl
  | same a o =>
    obtain ⟨_, _, r, hr, ht, hc, ho, _⟩ := hC
    obtain ⟨c0, c1, _, c6, _⟩ := hr.cells
    rw [ht] at c0
    rw [hc] at c1
    rw [ho] at c6
    refine hq (pfits_same _ b a o vt w _ c0 c1 c6 fun m => palike_any (w.drewN m) vt vt a o _ _ (hT a hok.1 m) (hT o hok.2 m)) ?_
    rw [hx, type_alike]; rfl
  | isin a t m o =>
    obtain ⟨_, _, r, hr, ht, hc, htb, hm, ho, _⟩ := hC
    obtain ⟨c0, c1, _, _, c7, c8, c9, _⟩ := hr.cells
    rw [ht] at c0
    rw [hc] at c1
    rw [htb] at c7
    rw [hm] at c8
    rw [ho] at c9
    obtain ⟨a0, cap0, hvs, hrow⟩ := hs
    have htl : t < ts.length := hok.2.1
    obtain ⟨sb, soff, tv, rfl, hsb, _, hc2, hrd⟩ := hrow t ts[t] (List.getElem?_eq_getElem hok.2.1)
    have he : ts.getD t ([], []) = ts[t] := by simp [List.getD, hok.2.1]
    have hr0 : w.cell? ⟨w0.heap.size, 0, none⟩ = some (.slice (some ⟨sb, soff, none⟩) ts.length cap0) := by rw [← hvs]; exact hX.rd.c0
    have hc2' : w.cell? ⟨sb, soff + t * 2 + 1, none⟩ = some tv := (hX.bel.cell (p := ⟨sb, soff + t * 2 + 1, none⟩) hsb).trans hc2
    have hrd' : Reads w tv (ts[t].2.map tcode) := hrd.below hX.bel
    have hll : ts[t].2.length ≤ 1048577 := by rw [← he]; exact hlc t
    have hT2 : ∀ (q : Nat), q < 9 → ∀ n, Calls Tryz.prog 212 #[tv, .int .i64 q] (w.drewN n) fun e w' => e = .returned (.int .i64 (typeNum ts[t].2 q)) ∧ w' = w.drewN n := fun q hq n => ptypeAt_any (w.drewN n) tv ts[t].2 q hrd' hll (by omega)
    refine hq (pfits_in _ b a t m o sb soff ts.length cap0 vt tv w _ _ c0 c1 c7 c8 c9 hr0 hok.2.1 hl hc2' (fun k => palike_any (w.drewN k) vt tv a m _ _ (hT a hok.1 k) (hT2 m hok.2.2.1 k)) fun k => hT2 o hok.2.2.2 k) ?_
    rw [hx, type_alike]
    show _ = (text[a]?.isSome && (text[a]? == (ts.getD t ([], [])).2[m]?) && ((ts.getD t ([], [])).2[o]? == some true))
    rw [he, show (2 : Int) = tnum true from rfl, type_val]
  | neg _ c _ =>
    obtain ⟨_, _, r, g, cap, b1, hr, ht, _⟩ := hC
    obtain ⟨c0, _⟩ := hr.cells
    rw [ht] at c0
    refine hq ((pfits_true _ b vt w 4 c0 (by simp)).mono ?_) hx.symm
    rintro e w' ⟨rfl, rfl⟩; exact ⟨rfl, 0, rfl⟩
  | two _ c d _ _ =>
    obtain ⟨_, _, r, g, cap, b1, b2, hr, ht, _⟩ := hC
    obtain ⟨c0, _⟩ := hr.cells
    refine hq ((pfits_true _ b vt w r.test c0 (by rcases ht with h | h <;> simp [h])).mono ?_) hx.symm
    rintro e w' ⟨rfl, rfl⟩; exact ⟨rfl, 0, rfl⟩
  | more _ _ _ _ _ => exact False.elim hC
theorem CndAt.at11 {hi : Nat} {w : World} {c : Cnd} {lo b : Nat} (h : CndAt hi w c lo b) : ∃ p, w.cell? ⟨b, 11, none⟩ = some (.int .i64 p) := by
  obtain ⟨_, _, r, hr⟩ := h.blk
  exact ⟨_, hr.cells.2.2.2.2.2.2.2.2⟩
theorem CndAt.below {w w' : World} {c : Cnd} {hi lo b : Nat} (h : CndAt hi w c lo b) (hh : hi ≤ w.heap.size) (hb : Below w.heap.size w w') : CndAt hi w' c lo b := h.keep fun k _ hk => hb.block k (by omega)

/-- Does a condition fit? -/
theorem xfitG (w0 : World) (vs vw vt : Value) (ts : List (List UInt8 × List Bool)) (text : List Bool) (ws : List (List UInt8)) (taken : Nat) (errno : Int) (rule : Bool) (hs : ReadsTabs tcode w0 vs ts) (hl : ts.length ≤ 1048577) (hlc : ∀ t, (ts.getD t ([], [])).2.length ≤ 1048577) (hxl : text.length ≤ 1048577) (c : Cnd) :
    ∀ (w : World) (hi lo b : Nat), RX w0 w vs vw ws taken errno rule → hi ≤ w.heap.size → CndAt hi w c lo b → OkC ts c → Reads w vt (text.map tcode) →
    Calls Tryz.prog 244 #[.pointer (some ⟨w0.heap.size, 0, none⟩), .pointer (some ⟨b, 0, none⟩), vt] w fun e w' => FitAns (fitC ts text c) errno e w' ∧ Below w.heap.size w w' := by
  -- what is left behind the parts, which fit
  have own : ∀ (c : Cnd) (w : World) (hi lo b : Nat), RX w0 w vs vw ws taken errno rule → hi ≤ w.heap.size → CndAt hi w c lo b → OkC ts c → Reads w vt (text.map tcode) →
      (Calls Tryz.prog 287 #[.pointer (some ⟨w0.heap.size, 0, none⟩), .pointer (some ⟨b, 0, none⟩), vt] w fun e w' => e = .returned .nilIface ∧ Below w.heap.size w w') →
      Calls Tryz.prog 244 #[.pointer (some ⟨w0.heap.size, 0, none⟩), .pointer (some ⟨b, 0, none⟩), vt] w fun e w' => FitAns (ownFit ts text c) errno e w' ∧ Below w.heap.size w w' := by
    intro c w hi lo b hX hh hC hok hR hp
    have hf := fun w1 (hb : Below w.heap.size w w1) => xfits w0 w1 vs vw vt ts text ws taken errno rule hs hl hlc (hR.below hb) hxl (hX.below hb) c hi lo b (hC.below hh hb) hok _ rfl
    cases hx : ownFit ts text c with
    | true =>
      rw [hx] at hf
      refine (pfit_yes _ b vt w _ (fun w' => Below w.heap.size w w') hp fun w1 hb => (hf w1 hb).mono ?_).mono ?_
      · rintro e w' ⟨rfl, hb'⟩; exact ⟨rfl, hb.trans (hb'.mono hb.size)⟩
      · rintro e w' ⟨rfl, hb⟩; exact ⟨by simp [FitAns], hb⟩
    | false =>
      rw [hx] at hf
      refine (pfit_no _ b vt w errno _ (fun w' => Below w.heap.size w w') hp (fun w1 hb => (hf w1 hb).mono ?_) fun w1 s hb => (pfault_any w1 w0.heap.size errno s (hX.below hb).rd.c3).mono ?_).mono ?_
      · rintro e w' ⟨rfl, hb'⟩; exact ⟨rfl, hb.trans (hb'.mono hb.size)⟩
      · rintro e w' ⟨rfl, rfl⟩
        have hb2 : Below w.heap.size w (w1.alloc (.cells #[.int .i64 errno, .string s] 179)) := hb.alloc hb.size _
        exact ⟨_, _, rfl, Err.new _ _ _, (hC.below hh hb2).at11, hb2⟩
      · rintro e w' ⟨te, pe, w1, rfl, hE, hb, hb'⟩
        exact ⟨by simpa [FitAns] using ⟨te, pe, ⟨rfl, rfl⟩, hE⟩, hb.trans (hb'.mono hb.size)⟩
  induction c using Cnd.ind with
  | any =>
    intro w hi lo b hX hh hC hok hR
    obtain ⟨_, _, r, hr, _, hp⟩ := id hC
    refine own .any w hi lo b hX hh hC hok hR ((pparts_0 _ b vt w (by rw [← hp]; exact hr.cells.2.2.2.2.2.2.2.1)).mono ?_)
    rintro e w' ⟨rfl, rfl⟩; exact ⟨rfl, Below.refl _ _⟩
  | val a x =>
    intro w hi lo b hX hh hC hok hR
    obtain ⟨_, _, r, hr, _, _, _, hp⟩ := id hC
    refine own (.val a x) w hi lo b hX hh hC hok hR ((pparts_0 _ b vt w (by rw [← hp]; exact hr.cells.2.2.2.2.2.2.2.1)).mono ?_)
    rintro e w' ⟨rfl, rfl⟩; exact ⟨rfl, Below.refl _ _⟩
  | same a x =>
    intro w hi lo b hX hh hC hok hR
    obtain ⟨_, _, r, hr, _, _, _, hp⟩ := id hC
    refine own (.same a x) w hi lo b hX hh hC hok hR ((pparts_0 _ b vt w (by rw [← hp]; exact hr.cells.2.2.2.2.2.2.2.1)).mono ?_)
    rintro e w' ⟨rfl, rfl⟩; exact ⟨rfl, Below.refl _ _⟩
  | isin a t m o =>
    intro w hi lo b hX hh hC hok hR
    obtain ⟨_, _, r, hr, _, _, _, _, _, hp⟩ := id hC
    refine own (.isin a t m o) w hi lo b hX hh hC hok hR ((pparts_0 _ b vt w (by rw [← hp]; exact hr.cells.2.2.2.2.2.2.2.1)).mono ?_)
    rintro e w' ⟨rfl, rfl⟩; exact ⟨rfl, Below.refl _ _⟩
  | neg l c ih =>
    intro w hi lo b hX hh hC hok hR
    obtain ⟨_, _, r, g, cap, b1, hr, _, hp, _, _, hcg, hC1⟩ := id hC
    have c10 : w.cell? ⟨b, 10, none⟩ = some (.slice (some ⟨g, 0, none⟩) 1 cap) := by rw [← hp]; exact hr.cells.2.2.2.2.2.2.2.1
    have h1 := ih w hi _ b1 hX hh hC1 hok hR
    show Calls _ _ _ _ fun e w' => FitAns (fitC ts text c) errno e w' ∧ Below w.heap.size w w'
    cases hx : fitC ts text c with
    | true =>
      rw [hx] at h1
      refine own ⟨[c], l⟩ w hi lo b hX hh hC hok hR ((pparts_1 _ b g cap b1 vt w (fun w' => Below w.heap.size w w') c10 hcg (h1.mono ?_)))
      rintro e w' ⟨hA, hb⟩; exact ⟨by simpa [FitAns] using hA, hb⟩
    | false =>
      rw [hx] at h1
      refine (pfit_parts _ b vt w errno (fun w' => Below w.heap.size w w') ((pparts_no _ b g 1 cap b1 (by decide) (by decide) vt w (fun v w' => Err w' errno v ∧ Below w.heap.size w w') c10 hcg (h1.mono ?_)).mono ?_)).mono ?_
      · rintro e w' ⟨hA, hb⟩
        obtain ⟨te, pe, rfl, hE⟩ : ∃ te pe, e = .returned (.iface te pe) ∧ Err w' errno (.iface te pe) := by simpa [FitAns] using hA
        exact ⟨te, pe, rfl, hE, hb⟩
      · rintro e w' ⟨te, pe, rfl, hE, hb⟩
        exact ⟨te, pe, rfl, hE, (hC.below hh hb).at11, hb⟩
      · rintro e w' ⟨te, pe, w1, rfl, hE, hb, hb'⟩
        exact ⟨by simpa [FitAns] using ⟨te, pe, ⟨rfl, rfl⟩, hE⟩, hb.trans (hb'.mono hb.size)⟩
  | two l c d ih1 ih2 =>
    intro w hi lo b hX hh hC hok hR
    obtain ⟨_, _, r, g, cap, b1, b2, hr, _, hp, _, hghi, hcg, hcg2, hC1, hC2⟩ := id hC
    have c10 : w.cell? ⟨b, 10, none⟩ = some (.slice (some ⟨g, 0, none⟩) 2 cap) := by rw [← hp]; exact hr.cells.2.2.2.2.2.2.2.1
    have h1 := ih1 w hi _ b1 hX hh hC1 hok.1 hR
    have h2 := fun w1 (hb : Below w.heap.size w w1) => ih2 w1 hi _ b2 (hX.below hb) (Nat.le_trans hh hb.size) (hC2.below hh hb) hok.2 (hR.below hb)
    have fail : ∀ (R : Prop), (Calls Tryz.prog 287 #[.pointer (some ⟨w0.heap.size, 0, none⟩), .pointer (some ⟨b, 0, none⟩), vt] w fun e w' => ∃ te pe, e = .returned (.iface te pe) ∧ Err w' errno (.iface te pe) ∧ Below w.heap.size w w') → fitC ts text ⟨[c, d], l⟩ = false →
        Calls Tryz.prog 244 #[.pointer (some ⟨w0.heap.size, 0, none⟩), .pointer (some ⟨b, 0, none⟩), vt] w fun e w' => FitAns (fitC ts text ⟨[c, d], l⟩) errno e w' ∧ Below w.heap.size w w' := by
      intro _ hp hx
      rw [hx]
      refine (pfit_parts _ b vt w errno (fun w' => Below w.heap.size w w') (hp.mono ?_)).mono ?_
      · rintro e w' ⟨te, pe, rfl, hE, hb⟩
        exact ⟨te, pe, rfl, hE, (hC.below hh hb).at11, hb⟩
      · rintro e w' ⟨te, pe, w1, rfl, hE, hb, hb'⟩
        exact ⟨by simpa [FitAns] using ⟨te, pe, ⟨rfl, rfl⟩, hE⟩, hb.trans (hb'.mono hb.size)⟩
    cases hx : fitC ts text c with
    | false =>
      rw [hx] at h1
      refine fail True (pparts_no _ b g 2 cap b1 (by decide) (by decide) vt w (fun v w' => Err w' errno v ∧ Below w.heap.size w w') c10 hcg (h1.mono ?_)) (by simp [fitC, hx])
      rintro e w' ⟨hA, hb⟩
      obtain ⟨te, pe, rfl, hE⟩ : ∃ te pe, e = .returned (.iface te pe) ∧ Err w' errno (.iface te pe) := by simpa [FitAns] using hA
      exact ⟨te, pe, rfl, hE, hb⟩
    | true =>
      rw [hx] at h1
      have h1' : Calls Tryz.prog 244 #[.pointer (some ⟨w0.heap.size, 0, none⟩), .pointer (some ⟨b1, 0, none⟩), vt] w fun e w' => e = .returned .nilIface ∧ w'.cell? ⟨g, 1, none⟩ = some (.pointer (some ⟨b2, 0, none⟩)) ∧ Below w.heap.size w w' := by
        refine h1.mono ?_
        rintro e w' ⟨hA, hb⟩
        exact ⟨by simpa [FitAns] using hA, (hb.cell (p := ⟨g, 1, none⟩) (show g < w.heap.size by omega)).trans hcg2, hb⟩
      cases hy : fitC ts text d with
      | false =>
        rw [hy] at h2
        refine fail True (pparts_2no _ b g cap b1 b2 vt w _ (fun v w' => Err w' errno v ∧ Below w.heap.size w w') c10 hcg h1' fun w1 hb => (h2 w1 hb).mono ?_) (by simp [fitC, hx, hy])
        rintro e w' ⟨hA, hb'⟩
        obtain ⟨te, pe, rfl, hE⟩ : ∃ te pe, e = .returned (.iface te pe) ∧ Err w' errno (.iface te pe) := by simpa [FitAns] using hA
        exact ⟨te, pe, rfl, hE, hb.trans (hb'.mono hb.size)⟩
      | true =>
        rw [hy] at h2
        have hfc : fitC ts text ⟨[c, d], l⟩ = true := by simp [fitC, hx, hy]
        rw [hfc]
        refine own ⟨[c, d], l⟩ w hi lo b hX hh hC hok hR ((pparts_2 _ b g cap b1 b2 vt w _ (fun _ w' => Below w.heap.size w w') c10 hcg h1' fun w1 hb => (h2 w1 hb).mono ?_))
        rintro e w' ⟨hA, hb'⟩
        exact ⟨by simpa [FitAns] using hA, hb.trans (hb'.mono hb.size)⟩
  | more _ _ _ _ _ => intro w hi lo b _ _ hC; exact False.elim hC
/-- The same, the types lying where the reader was made. -/
theorem xfit (w0 : World) (vs vw vt : Value) (ts : List (List UInt8 × List Bool)) (text : List Bool) (ws : List (List UInt8)) (taken : Nat) (errno : Int) (rule : Bool) (hs : ReadsTabs tcode w0 vs ts) (hl : ts.length ≤ 1048577) (hlc : ∀ t, (ts.getD t ([], [])).2.length ≤ 1048577) (hv : Reads w0 vt (text.map tcode)) (hxl : text.length ≤ 1048577) (c : Cnd)
    (w : World) (hi lo b : Nat) (hX : RX w0 w vs vw ws taken errno rule) (hh : hi ≤ w.heap.size) (hC : CndAt hi w c lo b) (hok : OkC ts c) :
    Calls Tryz.prog 244 #[.pointer (some ⟨w0.heap.size, 0, none⟩), .pointer (some ⟨b, 0, none⟩), vt] w fun e w' => FitAns (fitC ts text c) errno e w' ∧ Below w.heap.size w w' :=
  xfitG w0 vs vw vt ts text ws taken errno rule hs hl hlc hxl c w hi lo b hX hh hC hok (hv.below hX.bel)
end Go.Proofs.YtnpjldffciociaaGreatDoor
