import Derived.Test.YtiekijfmafklfaaGreatDoorProgP
import Derived.Test.YtiekijfmafklfaaGreatDoorCPure2
namespace Go.Proofs.YtiekijfmafklfaaGreatDoor
open Go.RowKit

/-- A condition's fields. -/
structure Raw where
  test : Int
  col : Int
  vt : Int
  vn : Int
  vs : ByteArray
  me : Bool
  other : Int
  table : Int
  mtch : Int
  who : Int
  parts : Value
  pl : Int
def Raw.row (r : Raw) : Array Value := #[.int .i64 r.test, .int .i64 r.col, .int .i64 r.vt, .int .i64 r.vn, .string r.vs, .bool r.me, .int .i64 r.other, .int .i64 r.table, .int .i64 r.mtch, .int .i64 r.who, r.parts, .int .i64 r.pl]
abbrev CBk (w : World) (b : Nat) (r : Raw) : Prop := w.heap[b]? = some (.cells r.row 200 (0, 0))
/-- A condition lies in block b, all of it among the blocks from lo up to hi. -/
def CndAt (hi : Nat) (w : World) : Cnd → Nat → Nat → Prop
  | .any, lo, b => lo ≤ b ∧ b < hi ∧ ∃ r, CBk w b r ∧ r.test = 0 ∧ r.parts = .slice none 0 0
  | .val a x, lo, b => lo ≤ b ∧ b < hi ∧ ∃ r, CBk w b r ∧ (r.test = 1 ∨ r.test = 2) ∧ r.col = a ∧ r.vt = tnum x ∧ r.parts = .slice none 0 0
  | .same a c, lo, b => lo ≤ b ∧ b < hi ∧ ∃ r, CBk w b r ∧ r.test = 3 ∧ r.col = a ∧ r.other = c ∧ r.parts = .slice none 0 0
  | .isin a t m o, lo, b => lo ≤ b ∧ b < hi ∧ ∃ r, CBk w b r ∧ r.test = 7 ∧ r.col = a ∧ r.table = t ∧ r.mtch = m ∧ r.who = o ∧ r.parts = .slice none 0 0
  | .neg c, lo, b => lo ≤ b ∧ b < hi ∧ ∃ r g cap b1, CBk w b r ∧ r.test = 4 ∧ r.parts = .slice (some ⟨g, 0, none⟩) 1 cap ∧ b < g ∧ g < hi ∧ w.cell? ⟨g, 0, none⟩ = some (.pointer (some ⟨b1, 0, none⟩)) ∧ CndAt hi w c (b + 1) b1
  | .two c d, lo, b => lo ≤ b ∧ b < hi ∧ ∃ r g cap b1 b2, CBk w b r ∧ (r.test = 5 ∨ r.test = 6) ∧ r.parts = .slice (some ⟨g, 0, none⟩) 2 cap ∧ b < g ∧ g < hi ∧ w.cell? ⟨g, 0, none⟩ = some (.pointer (some ⟨b1, 0, none⟩)) ∧
      w.cell? ⟨g, 1, none⟩ = some (.pointer (some ⟨b2, 0, none⟩)) ∧ CndAt hi w c (b + 1) b1 ∧ CndAt hi w d (b + 1) b2
theorem CndAt.keep {hi : Nat} {w w' : World} {c : Cnd} : ∀ {lo b : Nat}, CndAt hi w c lo b → (∀ k, lo ≤ k → k < hi → w'.heap[k]? = w.heap[k]?) → CndAt hi w' c lo b := by
  induction c with
  | any => rintro lo b ⟨h1, h2, r, hr, h⟩ hk; exact ⟨h1, h2, r, (hk b h1 h2).trans hr, h⟩
  | val a x => rintro lo b ⟨h1, h2, r, hr, h⟩ hk; exact ⟨h1, h2, r, (hk b h1 h2).trans hr, h⟩
  | same a x => rintro lo b ⟨h1, h2, r, hr, h⟩ hk; exact ⟨h1, h2, r, (hk b h1 h2).trans hr, h⟩
  | isin a t m o => rintro lo b ⟨h1, h2, r, hr, h⟩ hk; exact ⟨h1, h2, r, (hk b h1 h2).trans hr, h⟩
  | neg c ih =>
    rintro lo b ⟨h1, h2, r, g, cap, b1, hr, ht, hp, hg, hg2, hc, hC⟩ hk
    exact ⟨h1, h2, r, g, cap, b1, (hk b h1 h2).trans hr, ht, hp, hg, hg2, (World.cell?_of_block (hk g (by omega) hg2)).trans hc, ih hC fun k hk1 hk2 => hk k (by omega) hk2⟩
  | two c d ih1 ih2 =>
    rintro lo b ⟨h1, h2, r, g, cap, b1, b2, hr, ht, hp, hg, hg2, hc, hc2, hC, hD⟩ hk
    exact ⟨h1, h2, r, g, cap, b1, b2, (hk b h1 h2).trans hr, ht, hp, hg, hg2, (World.cell?_of_block (hk g (by omega) hg2)).trans hc, (World.cell?_of_block (hk g (by omega) hg2)).trans hc2,
      ih1 hC fun k hk1 hk2 => hk k (by omega) hk2, ih2 hD fun k hk1 hk2 => hk k (by omega) hk2⟩
theorem CndAt.mono {hi hi' : Nat} {w : World} {c : Cnd} (hh : hi ≤ hi') : ∀ {lo lo' b : Nat}, CndAt hi w c lo b → lo' ≤ lo → CndAt hi' w c lo' b := by
  induction c with
  | any => rintro lo lo' b ⟨h1, h2, h⟩ hl; exact ⟨by omega, by omega, h⟩
  | val a x => rintro lo lo' b ⟨h1, h2, h⟩ hl; exact ⟨by omega, by omega, h⟩
  | same a x => rintro lo lo' b ⟨h1, h2, h⟩ hl; exact ⟨by omega, by omega, h⟩
  | isin a t m o => rintro lo lo' b ⟨h1, h2, h⟩ hl; exact ⟨by omega, by omega, h⟩
  | neg c ih =>
    rintro lo lo' b ⟨h1, h2, r, g, cap, b1, hr, ht, hp, hg, hg2, hc, hC⟩ hl
    exact ⟨by omega, by omega, r, g, cap, b1, hr, ht, hp, hg, by omega, hc, ih hC (Nat.le_refl _)⟩
  | two c d ih1 ih2 =>
    rintro lo lo' b ⟨h1, h2, r, g, cap, b1, b2, hr, ht, hp, hg, hg2, hc, hc2, hC, hD⟩ hl
    exact ⟨by omega, by omega, r, g, cap, b1, b2, hr, ht, hp, hg, by omega, hc, hc2, ih1 hC (Nat.le_refl _), ih2 hD (Nat.le_refl _)⟩
theorem CndAt.blk {hi : Nat} {w : World} {c : Cnd} {lo b : Nat} (h : CndAt hi w c lo b) : lo ≤ b ∧ b < hi ∧ ∃ r, CBk w b r := by
  cases c with
  | any => obtain ⟨h1, h2, r, hr, _⟩ := h; exact ⟨h1, h2, r, hr⟩
  | val a x => obtain ⟨h1, h2, r, hr, _⟩ := h; exact ⟨h1, h2, r, hr⟩
  | same a x => obtain ⟨h1, h2, r, hr, _⟩ := h; exact ⟨h1, h2, r, hr⟩
  | isin a t m o => obtain ⟨h1, h2, r, hr, _⟩ := h; exact ⟨h1, h2, r, hr⟩
  | neg c => obtain ⟨h1, h2, r, g, cap, b1, hr, _⟩ := h; exact ⟨h1, h2, r, hr⟩
  | two c d => obtain ⟨h1, h2, r, g, cap, b1, b2, hr, _⟩ := h; exact ⟨h1, h2, r, hr⟩
/-- Its place is written into it. -/
theorem CBk.place {w : World} {b : Nat} {r : Raw} (h : CBk w b r) (p : Int) : CBk (w.setCell ⟨b, 11, none⟩ (.int .i64 p)) b { r with pl := p } := by
  unfold CBk at *
  simp only [World.setCell, Array.getElem?_modify, h]
  simp [Raw.row]
theorem CndAt.place {hi : Nat} {w : World} {c : Cnd} {lo b : Nat} (h : CndAt hi w c lo b) (p : Int) : CndAt hi (w.setCell ⟨b, 11, none⟩ (.int .i64 p)) c lo b := by
  have ho : ∀ k, k ≠ b → (w.setCell ⟨b, 11, none⟩ (.int .i64 p)).heap[k]? = w.heap[k]? := fun k hk => Below.heap_setCell _ _ _ _ hk
  cases c with
  | any => obtain ⟨h1, h2, r, hr, h⟩ := h; exact ⟨h1, h2, _, hr.place p, h⟩
  | val a x => obtain ⟨h1, h2, r, hr, h⟩ := h; exact ⟨h1, h2, _, hr.place p, h⟩
  | same a x => obtain ⟨h1, h2, r, hr, h⟩ := h; exact ⟨h1, h2, _, hr.place p, h⟩
  | isin a t m o => obtain ⟨h1, h2, r, hr, h⟩ := h; exact ⟨h1, h2, _, hr.place p, h⟩
  | neg c =>
    obtain ⟨h1, h2, r, g, cap, b1, hr, ht, hp, hg, hg2, hc, hC⟩ := h
    exact ⟨h1, h2, _, g, cap, b1, hr.place p, ht, hp, hg, hg2, (World.cell?_of_block (ho g (by omega))).trans hc, hC.keep fun k hk1 hk2 => ho k (by omega)⟩
  | two c d =>
    obtain ⟨h1, h2, r, g, cap, b1, b2, hr, ht, hp, hg, hg2, hc, hc2, hC, hD⟩ := h
    exact ⟨h1, h2, _, g, cap, b1, b2, hr.place p, ht, hp, hg, hg2, (World.cell?_of_block (ho g (by omega))).trans hc, (World.cell?_of_block (ho g (by omega))).trans hc2,
      hC.keep fun k hk1 hk2 => ho k (by omega), hD.keep fun k hk1 hk2 => ho k (by omega)⟩

/-- What a reader of a condition answers, called in world w. -/
def CAns (w0 w : World) (vs vw : Value) (ws : List (List UInt8)) (errno : Int) (rule : Bool) (o : Option (Cnd × Nat)) (e : Ending) (w' : World) : Prop :=
  (match o with
    | some (c, j) => ∃ b, e = .returned (.tuple #[.pointer (some ⟨b, 0, none⟩), .nilIface]) ∧ CndAt w'.heap.size w' c w.heap.size b ∧ RX w0 w' vs vw ws j errno rule
    | none => ∃ te pe, e = .returned (.tuple #[.pointer none, .iface te pe]) ∧ Err w' errno (.iface te pe)) ∧ Stp w0.heap.size w w'

set_option maxRecDepth 10000 in
set_option maxHeartbeats 1000000 in
theorem psame_yes (rb a c : Nat) (w : World) (P : World → Prop)
    (h2 : Calls Tryz.prog 102 #[.pointer (some ⟨rb, 0, none⟩)] w fun e w' => e = .returned (.tuple #[.int .i64 a, .int .i64 c, .nilIface]) ∧ P w') :
    Calls Tryz.prog 124 #[.pointer (some ⟨rb, 0, none⟩)] w fun e w' => ∃ w1, P w1 ∧ e = .returned (.tuple #[.pointer (some ⟨w1.heap.size, 0, none⟩), .nilIface]) ∧
      w' = w1.alloc (.cells (Raw.row { test := 3, col := a, vt := 0, vn := 0, vs := ByteArray.empty, me := false, other := c, table := 0, mtch := 0, who := 0, parts := .slice none 0 0, pl := 0 }) 200) := by
  go_enter Tryz.func124, Tryz.ntmps124
  go_wp2_with (go_at_call 102; refine h2.mono ?_; rintro e w1 ⟨rfl, hP⟩)
  go_ret2
  exact ⟨w1, hP, rfl, rfl⟩
set_option maxRecDepth 10000 in
set_option maxHeartbeats 1000000 in
theorem psame_no (rb : Nat) (w : World) (P : Value → World → Prop)
    (h2 : Calls Tryz.prog 102 #[.pointer (some ⟨rb, 0, none⟩)] w fun e w' => ∃ (a b : Int) (te : TypeId) (pe : Value), e = .returned (.tuple #[.int .i64 a, .int .i64 b, .iface te pe]) ∧ P (.iface te pe) w') :
    Calls Tryz.prog 124 #[.pointer (some ⟨rb, 0, none⟩)] w fun e w' => ∃ te pe, e = .returned (.tuple #[.pointer none, .iface te pe]) ∧ P (.iface te pe) w' := by
  go_enter Tryz.func124, Tryz.ntmps124
  go_wp2_with (go_at_call 102; refine h2.mono ?_; rintro e w1 ⟨a, b, te, pe, rfl, hP⟩)
  go_ret2
  exact ⟨te, pe, rfl, hP⟩
end Go.Proofs.YtiekijfmafklfaaGreatDoor
