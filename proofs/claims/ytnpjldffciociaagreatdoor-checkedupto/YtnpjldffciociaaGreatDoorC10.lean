import Derived.Test.YtnpjldffciociaaGreatDoorB25
import Derived.Test.YtnpjldffciociaaGreatDoorB26
import Derived.Test.YtnpjldffciociaaGreatDoorC03
namespace Go.Proofs.YtnpjldffciociaaGreatDoor
open Go.RowKit

/-- Types in memory, nowhere in the reader's block. -/
def TyAt (rb : Nat) (w : World) (v : Value) (xs : List Bool) : Prop := RdAt rb w v (xs.map tcode) ∧ NilOk v
theorem TyAt.slice {rb : Nat} {w : World} {v : Value} {xs : List Bool} (h : TyAt rb w v xs) : ∃ a cap, v = .slice a xs.length cap := by
  obtain ⟨⟨a, cap, rfl, _⟩, _⟩ := h
  exact ⟨a, cap, by simp⟩
theorem TyAt.reads {rb : Nat} {w : World} {v : Value} {xs : List Bool} (h : TyAt rb w v xs) : Reads w v (xs.map tcode) := h.1.reads
theorem TyAt.stp {rb : Nat} {w w' : World} {v : Value} {xs : List Bool} (h : TyAt rb w v xs) (hS : Stp rb w w') : TyAt rb w' v xs := ⟨h.1.stp hS, h.2⟩
theorem TyAt.below {rb : Nat} {w w' : World} {v : Value} {xs : List Bool} (h : TyAt rb w v xs) (hb : Below w.heap.size w w') : TyAt rb w' v xs := ⟨h.1.below hb, h.2⟩
theorem TyAt.of_own {rb base n : Nat} {w : World} {v : Value} {xs : List Bool} {e : TypeId} (h : w.ownsRow base e 1 v n (xs.map tcode)) (hb : rb < base) : TyAt rb w v xs := ⟨RdAt.of_own h hb, NilOk.of_owns h⟩

/-- A view that was read: its columns' types. -/
def VwAt (rb : Nat) (w : World) (b : Nat) (xs : List Bool) : Prop := ∃ vt, b ≠ rb ∧ w.cell? ⟨b, 6, none⟩ = some vt ∧ TyAt rb w vt xs
theorem VwAt.stp {rb b : Nat} {w w' : World} {xs : List Bool} (h : VwAt rb w b xs) (hS : Stp rb w w') : VwAt rb w' b xs := by
  obtain ⟨vt, hne, hc, ht⟩ := h
  have hlt : b < w.heap.size := World.block_lt_of_cell? w _ hc
  exact ⟨vt, hne, (World.cell?_of_block (a := ⟨b, 6, none⟩) (hS.block b hlt (by simpa using hne))).trans hc, ht.stp hS⟩

/-- What a reader of a view answers. -/
def WAns (w0 w : World) (vs vw : Value) (ws : List (List UInt8)) (errno : Int) (rule : Bool) (o : Option (List Bool × Nat)) (e : Ending) (w' : World) : Prop :=
  (match o with
    | some (xs, j) => ∃ b, e = .returned (.tuple #[.pointer (some ⟨b, 0, none⟩), .nilIface]) ∧ VwAt w0.heap.size w' b xs ∧ RX w0 w' vs vw ws j errno rule
    | none => ∃ te pe, e = .returned (.tuple #[.pointer none, .iface te pe]) ∧ Err w' errno (.iface te pe)) ∧ Stp w0.heap.size w w'
theorem WAns.trans {w0 w w1 w' : World} {vs vw : Value} {ws : List (List UInt8)} {errno : Int} {rule : Bool} {o : Option (List Bool × Nat)} {e : Ending} (h : WAns w0 w1 vs vw ws errno rule o e w') (hS : Stp w0.heap.size w w1) : WAns w0 w vs vw ws errno rule o e w' := ⟨h.1, hS.trans h.2⟩
theorem WAns.form {w0 w w' : World} {vs vw : Value} {ws : List (List UInt8)} {errno : Int} {rule : Bool} {o : Option (List Bool × Nat)} {e : Ending} (h : WAns w0 w vs vw ws errno rule o e w') : ∃ a b, e = .returned (.tuple #[a, b]) ∧ WAns w0 w vs vw ws errno rule o (.returned (.tuple #[a, b])) w' := by
  obtain ⟨hm, hS⟩ := h
  cases o with
  | none =>
    obtain ⟨te, pe, rfl, hE⟩ := hm
    exact ⟨_, _, rfl, ⟨te, pe, rfl, hE⟩, hS⟩
  | some p =>
    obtain ⟨b, rfl, hv⟩ := hm
    exact ⟨_, _, rfl, ⟨b, rfl, hv⟩, hS⟩
theorem WAns.err {w0 w w1 w2 : World} {vs vw : Value} {ws : List (List UInt8)} {errno : Int} {rule : Bool} {te : TypeId} {pe : Value} (hE : Err w1 errno (.iface te pe)) (hS : Stp w0.heap.size w w1) (hb : Below w1.heap.size w1 w2) :
    WAns w0 w vs vw ws errno rule none (.returned (.tuple #[.pointer none, .iface te pe])) w2 := ⟨⟨te, pe, rfl, hE.kept hb⟩, hS.trans (Stp.of_below hb)⟩
/-- A view in its block, with a text in its last cell. -/
def SevAt (w : World) (b : Nat) : Prop := ∃ row s, w.heap[b]? = some (.cells row 113 (0, 0)) ∧ row[7]? = some (.string s)
/-- A view newly made, of these types. -/
def NewVw (w3 : World) (tv : Value) (e : Ending) (w' : World) : Prop :=
  Below w3.heap.size w3 w' ∧ ∃ nb, w3.heap.size ≤ nb ∧ e = .returned (.tuple #[.pointer (some ⟨nb, 0, none⟩), .nilIface]) ∧ w'.cell? ⟨nb, 6, none⟩ = some tv ∧ SevAt w' nb
/-- What a reader of a view without its words answers. -/
def OpAns (w0 w : World) (vs vw : Value) (ws : List (List UInt8)) (errno : Int) (rule : Bool) (o : Option (List Bool × Nat)) (e : Ending) (w' : World) : Prop :=
  match o with
    | some (xs, j) => ∃ w3 tv, RX w0 w3 vs vw ws j errno rule ∧ Stp w0.heap.size w w3 ∧ TyAt w0.heap.size w3 tv xs ∧ NewVw w3 tv e w'
    | none => (∃ te pe, e = .returned (.tuple #[.pointer none, .iface te pe]) ∧ Err w' errno (.iface te pe)) ∧ Stp w0.heap.size w w'
theorem OpAns.new {w0 w w3 w' : World} {vs vw : Value} {ws : List (List UInt8)} {j : Nat} {errno : Int} {rule : Bool} {tv : Value} {xs : List Bool} {e : Ending} (hX : RX w0 w3 vs vw ws j errno rule) (hS : Stp w0.heap.size w w3) (ht : TyAt w0.heap.size w3 tv xs) (hN : NewVw w3 tv e w') :
    OpAns w0 w vs vw ws errno rule (some (xs, j)) e w' := ⟨w3, tv, hX, hS, ht, hN⟩
theorem OpAns.err {w0 w w1 w2 : World} {vs vw : Value} {ws : List (List UInt8)} {errno : Int} {rule : Bool} {te : TypeId} {pe : Value} (hE : Err w1 errno (.iface te pe)) (hS : Stp w0.heap.size w w1) (hb : Below w1.heap.size w1 w2) :
    OpAns w0 w vs vw ws errno rule none (.returned (.tuple #[.pointer none, .iface te pe])) w2 := ⟨⟨te, pe, rfl, hE.kept hb⟩, hS.trans (Stp.of_below hb)⟩
theorem OpAns.trans {w0 w w1 w' : World} {vs vw : Value} {ws : List (List UInt8)} {errno : Int} {rule : Bool} {o : Option (List Bool × Nat)} {e : Ending} (h : OpAns w0 w1 vs vw ws errno rule o e w') (hS : Stp w0.heap.size w w1) : OpAns w0 w vs vw ws errno rule o e w' := by
  cases o with
  | none => exact ⟨h.1, hS.trans h.2⟩
  | some p =>
    obtain ⟨w3, tv, h1, h2, h3⟩ := h
    exact ⟨w3, tv, h1, hS.trans h2, h3⟩
theorem OpAns.form {w0 w w' : World} {vs vw : Value} {ws : List (List UInt8)} {errno : Int} {rule : Bool} {o : Option (List Bool × Nat)} {e : Ending} (h : OpAns w0 w vs vw ws errno rule o e w') : ∃ a b, e = .returned (.tuple #[a, b]) ∧ OpAns w0 w vs vw ws errno rule o (.returned (.tuple #[a, b])) w' := by
  cases o with
  | none =>
    obtain ⟨⟨te, pe, rfl, hE⟩, hS⟩ := h
    exact ⟨_, _, rfl, ⟨te, pe, rfl, hE⟩, hS⟩
  | some p =>
    obtain ⟨w3, tv, h1, h2, h3, hb, nb, hnb, rfl, hc⟩ := h
    exact ⟨_, _, rfl, w3, tv, h1, h2, h3, hb, nb, hnb, rfl, hc⟩

abbrev vwRow (op tb : Int) (cd cols : Value) (sm : Int) (pv tv : Value) : Array Value := #[.int .i64 op, .int .i64 tb, cd, cols, .int .i64 sm, pv, tv, .string ByteArray.empty]
theorem newVw1 (w : World) (op tb : Int) (cd cols : Value) (sm : Int) (pv tv : Value) (nb : Nat) (hnb : nb = w.heap.size) : NewVw w tv (.returned (.tuple #[.pointer (some ⟨nb, 0, none⟩), .nilIface])) (w.alloc (.cells (vwRow op tb cd cols sm pv tv) 113)) := by
  subst hnb
  exact ⟨(Below.refl _ _).alloc (Nat.le_refl _) _, _, Nat.le_refl _, rfl, by simp, _, _, heap_alloc_new w _, rfl⟩
theorem NewVw.after {w3 w4 w' : World} {tv : Value} {e : Ending} (hb : Below w3.heap.size w3 w4) (h : NewVw w4 tv e w') : NewVw w3 tv e w' := by
  obtain ⟨hb', nb, hnb, he, hc⟩ := h
  exact ⟨hb.trans (hb'.mono hb.size), nb, Nat.le_trans hb.size hnb, he, hc⟩
end Go.Proofs.YtnpjldffciociaaGreatDoor
namespace Go.Proofs.YtnpjldffciociaaGreatDoor
open Go.RowKit

set_option maxRecDepth 10000 in
set_option maxHeartbeats 1000000 in
theorem pall_no (rb : Nat) (w : World) (R : Value → World → Prop)
    (h1 : Calls Tryz.prog 160 #[.pointer (some ⟨rb, 0, none⟩)] w fun e w' => ∃ te pe, e = .returned (.tuple #[.int .i64 0, .iface te pe]) ∧ R (.iface te pe) w') :
    Calls Tryz.prog 198 #[.pointer (some ⟨rb, 0, none⟩)] w fun e w' => ∃ te pe, e = .returned (.tuple #[.pointer none, .iface te pe]) ∧ R (.iface te pe) w' := by
  go_enter Tryz.func198, Tryz.ntmps198
  go_wp2_with (go_at_call 160; refine h1.mono ?_; rintro e w1 ⟨te, pe, rfl, hR⟩)
  go_ret2
  exact ⟨te, pe, rfl, hR⟩
set_option maxRecDepth 10000 in
set_option maxHeartbeats 1000000 in
theorem pall_yes (rb t sb soff sn scap : Nat) (ta : Option Addr) (tn tc : Nat) (w : World) (P : World → Prop) (ht : t < sn) (_hsn : sn ≤ 1048577)
    (h1 : Calls Tryz.prog 160 #[.pointer (some ⟨rb, 0, none⟩)] w fun e w' => e = .returned (.tuple #[.int .i64 t, .nilIface]) ∧ w'.cell? ⟨rb, 0, none⟩ = some (.slice (some ⟨sb, soff, none⟩) sn scap) ∧ w'.cell? ⟨sb, soff + t * 2 + 1, none⟩ = some (.slice ta tn tc) ∧ P w') :
    Calls Tryz.prog 198 #[.pointer (some ⟨rb, 0, none⟩)] w fun e w' => ∃ w3, P w3 ∧ NewVw w3 (.slice ta tn tc) e w' := by
  have hi : 0 ≤ (t : Int) ∧ (t : Int) < sn := by omega
  go_enter Tryz.func198, Tryz.ntmps198
  go_wp2_with (go_at_call 160; refine h1.mono ?_; rintro e w1 ⟨rfl, k0, k1, hP⟩)
  go_ret2
  exact ⟨w1, hP, newVw1 w1 _ _ _ _ _ _ _ _ rfl⟩
set_option maxRecDepth 10000 in
set_option maxHeartbeats 1000000 in
theorem pkeep_cond (rb : Nat) (w : World) (R : Value → World → Prop)
    (h1 : Calls Tryz.prog 243 #[.pointer (some ⟨rb, 0, none⟩)] w fun e w' => ∃ te pe, e = .returned (.tuple #[.pointer none, .iface te pe]) ∧ R (.iface te pe) w') :
    Calls Tryz.prog 199 #[.pointer (some ⟨rb, 0, none⟩)] w fun e w' => ∃ te pe, e = .returned (.tuple #[.pointer none, .iface te pe]) ∧ R (.iface te pe) w' := by
  go_enter Tryz.func199, Tryz.ntmps199
  go_wp2_with (go_at_call 243; refine h1.mono ?_; rintro e w1 ⟨te, pe, rfl, hR⟩)
  go_ret2
  exact ⟨te, pe, rfl, hR⟩
set_option maxRecDepth 10000 in
set_option maxHeartbeats 1000000 in
theorem pkeep_view (rb : Nat) (w : World) (P1 : Nat → World → Prop) (R : Value → World → Prop)
    (h1 : Calls Tryz.prog 243 #[.pointer (some ⟨rb, 0, none⟩)] w fun e w' => ∃ b, e = .returned (.tuple #[.pointer (some ⟨b, 0, none⟩), .nilIface]) ∧ P1 b w')
    (h2 : ∀ b w1, P1 b w1 → Calls Tryz.prog 99 #[.pointer (some ⟨rb, 0, none⟩)] w1 fun e w' => ∃ te pe, e = .returned (.tuple #[.pointer none, .iface te pe]) ∧ R (.iface te pe) w') :
    Calls Tryz.prog 199 #[.pointer (some ⟨rb, 0, none⟩)] w fun e w' => ∃ te pe, e = .returned (.tuple #[.pointer none, .iface te pe]) ∧ R (.iface te pe) w' := by
  go_enter Tryz.func199, Tryz.ntmps199
  go_wp2_with (first
    | (go_at_call 243; refine h1.mono ?_; rintro e w1 ⟨b, rfl, hP⟩)
    | (go_at_call 99; refine (h2 _ _ hP).mono ?_; rintro e w2 ⟨te, pe, rfl, hR⟩))
  go_ret2
  exact ⟨te, pe, rfl, hR⟩
set_option maxRecDepth 10000 in
set_option maxHeartbeats 1000000 in
theorem pkeep_fit (rb : Nat) (w : World) (P1 : Nat → World → Prop) (P2 : Nat → Nat → Value → World → Prop) (R : Value → World → Prop)
    (h1 : Calls Tryz.prog 243 #[.pointer (some ⟨rb, 0, none⟩)] w fun e w' => ∃ b, e = .returned (.tuple #[.pointer (some ⟨b, 0, none⟩), .nilIface]) ∧ P1 b w')
    (h2 : ∀ b w1, P1 b w1 → Calls Tryz.prog 99 #[.pointer (some ⟨rb, 0, none⟩)] w1 fun e w' => ∃ b2 tv, e = .returned (.tuple #[.pointer (some ⟨b2, 0, none⟩), .nilIface]) ∧ w'.cell? ⟨b2, 6, none⟩ = some tv ∧ P2 b b2 tv w')
    (h3 : ∀ b b2 tv w1, P2 b b2 tv w1 → Calls Tryz.prog 244 #[.pointer (some ⟨rb, 0, none⟩), .pointer (some ⟨b, 0, none⟩), tv] w1 fun e w' => ∃ te pe, e = .returned (.iface te pe) ∧ R (.iface te pe) w') :
    Calls Tryz.prog 199 #[.pointer (some ⟨rb, 0, none⟩)] w fun e w' => ∃ te pe, e = .returned (.tuple #[.pointer none, .iface te pe]) ∧ R (.iface te pe) w' := by
  go_enter Tryz.func199, Tryz.ntmps199
  go_wp2_with (first
    | (go_at_call 243; refine h1.mono ?_; rintro e w1 ⟨b, rfl, hP⟩)
    | (go_at_call 99; refine (h2 _ _ hP).mono ?_; rintro e w2 ⟨b2, tv, rfl, k6, hP2⟩)
    | (go_at_call 244; refine (h3 _ _ _ _ hP2).mono ?_; rintro e w3 ⟨te, pe, rfl, hR⟩))
  go_ret2
  exact ⟨te, pe, rfl, hR⟩
set_option maxRecDepth 10000 in
set_option maxHeartbeats 1000000 in
theorem pkeep_yes (rb : Nat) (w : World) (P1 : Nat → World → Prop) (P2 : Nat → Nat → Value → World → Prop) (P3 : Value → World → Prop) (hsl : ∀ tv w1, P3 tv w1 → ∃ ta tn tc, tv = .slice ta tn tc)
    (h1 : Calls Tryz.prog 243 #[.pointer (some ⟨rb, 0, none⟩)] w fun e w' => ∃ b, e = .returned (.tuple #[.pointer (some ⟨b, 0, none⟩), .nilIface]) ∧ P1 b w')
    (h2 : ∀ b w1, P1 b w1 → Calls Tryz.prog 99 #[.pointer (some ⟨rb, 0, none⟩)] w1 fun e w' => ∃ b2 tv, e = .returned (.tuple #[.pointer (some ⟨b2, 0, none⟩), .nilIface]) ∧ w'.cell? ⟨b2, 6, none⟩ = some tv ∧ P2 b b2 tv w')
    (h3 : ∀ b b2 tv w1, P2 b b2 tv w1 → Calls Tryz.prog 244 #[.pointer (some ⟨rb, 0, none⟩), .pointer (some ⟨b, 0, none⟩), tv] w1 fun e w' => e = .returned .nilIface ∧ b2 < w'.heap.size ∧ w'.cell? ⟨b2, 6, none⟩ = some tv ∧ P3 tv w') :
    Calls Tryz.prog 199 #[.pointer (some ⟨rb, 0, none⟩)] w fun e w' => ∃ tv w3, P3 tv w3 ∧ NewVw w3 tv e w' := by
  go_enter Tryz.func199, Tryz.ntmps199
  go_wp2_with (first
    | (go_at_call 243; refine h1.mono ?_; rintro e w1 ⟨b, rfl, hP⟩)
    | (go_at_call 99; refine (h2 _ _ hP).mono ?_; rintro e w2 ⟨b2, tv, rfl, k6, hP2⟩)
    | (go_at_call 244; refine (h3 _ _ _ _ hP2).mono ?_; rintro e w3 ⟨rfl, hlt3, k63, hP3⟩; obtain ⟨ta, tn, tc, rfl⟩ := hsl _ _ hP3; have kA := fun o => lift_alloc o hlt3 k63))
  go_ret2
  exact ⟨_, w3, hP3, NewVw.after ((Below.refl _ _).alloc (Nat.le_refl _) _) (newVw1 _ _ _ _ _ _ _ _ _ (by simp))⟩
end Go.Proofs.YtnpjldffciociaaGreatDoor
