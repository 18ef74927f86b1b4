import Derived.Test.YtnpjldffciociaaGreatDoorB19
import Derived.Test.YtnpjldffciociaaGreatDoorB20
namespace Go.Proofs.YtnpjldffciociaaGreatDoor
open Go.RowKit

/-- A condition's fields. -/
structure Raw where
  test : Int
  col : Int
  vt : Int
  vn : Int
  vs : ByteArray
  me : Bool
  other : Int
  table : Int
  mtch : Int
  who : Int
  parts : Value
  pl : Int
def Raw.row (r : Raw) : Array Value := #[.int .i64 r.test, .int .i64 r.col, .int .i64 r.vt, .int .i64 r.vn, .string r.vs, .bool r.me, .int .i64 r.other, .int .i64 r.table, .int .i64 r.mtch, .int .i64 r.who, r.parts, .int .i64 r.pl]
abbrev CBk (w : World) (b : Nat) (r : Raw) : Prop := w.heap[b]? = some (.cells r.row 436 (0, 0))
/-- A condition lies in block b, all of it among the blocks from lo up to hi. -/
def CndAt (hi : Nat) (w : World) : Cnd → Nat → Nat → Prop
  | ⟨[], none⟩, lo, b => lo ≤ b ∧ b < hi ∧ ∃ r, CBk w b r ∧ r.test = 0 ∧ r.parts = .slice none 0 0
  | ⟨[], some (.inl (a, x))⟩, lo, b => lo ≤ b ∧ b < hi ∧ ∃ r, CBk w b r ∧ (r.test = 1 ∨ r.test = 2) ∧ r.col = a ∧ r.vt = tnum x ∧ r.parts = .slice none 0 0
  | ⟨[], some (.inr (.inl (a, c)))⟩, lo, b => lo ≤ b ∧ b < hi ∧ ∃ r, CBk w b r ∧ r.test = 3 ∧ r.col = a ∧ r.other = c ∧ r.parts = .slice none 0 0
  | ⟨[], some (.inr (.inr (a, t, m, o)))⟩, lo, b => lo ≤ b ∧ b < hi ∧ ∃ r, CBk w b r ∧ r.test = 7 ∧ r.col = a ∧ r.table = t ∧ r.mtch = m ∧ r.who = o ∧ r.parts = .slice none 0 0
  | ⟨[c], _⟩, lo, b => lo ≤ b ∧ b < hi ∧ ∃ r g cap b1, CBk w b r ∧ r.test = 4 ∧ r.parts = .slice (some ⟨g, 0, none⟩) 1 cap ∧ b < g ∧ g < hi ∧ w.cell? ⟨g, 0, none⟩ = some (.pointer (some ⟨b1, 0, none⟩)) ∧ CndAt hi w c (b + 1) b1
  | ⟨[c, d], _⟩, lo, b => lo ≤ b ∧ b < hi ∧ ∃ r g cap b1 b2, CBk w b r ∧ (r.test = 5 ∨ r.test = 6) ∧ r.parts = .slice (some ⟨g, 0, none⟩) 2 cap ∧ b < g ∧ g < hi ∧ w.cell? ⟨g, 0, none⟩ = some (.pointer (some ⟨b1, 0, none⟩)) ∧
      w.cell? ⟨g, 1, none⟩ = some (.pointer (some ⟨b2, 0, none⟩)) ∧ CndAt hi w c (b + 1) b1 ∧ CndAt hi w d (b + 1) b2
  | ⟨_ :: _ :: _ :: _, _⟩, _, _ => False
theorem CndAt.keep {hi : Nat} {w w' : World} {c : Cnd} : ∀ {lo b : Nat}, CndAt hi w c lo b → (∀ k, lo ≤ k → k < hi → w'.heap[k]? = w.heap[k]?) → CndAt hi w' c lo b := by
  induction c using Cnd.ind with
  | any => rintro lo b ⟨h1, h2, r, hr, h⟩ hk; exact ⟨h1, h2, r, (hk b h1 h2).trans hr, h⟩
  | val a x => rintro lo b ⟨h1, h2, r, hr, h⟩ hk; exact ⟨h1, h2, r, (hk b h1 h2).trans hr, h⟩
  | same a x => rintro lo b ⟨h1, h2, r, hr, h⟩ hk; exact ⟨h1, h2, r, (hk b h1 h2).trans hr, h⟩
  | isin a t m o => rintro lo b ⟨h1, h2, r, hr, h⟩ hk; exact ⟨h1, h2, r, (hk b h1 h2).trans hr, h⟩
  | neg _ c ih =>
    rintro lo b ⟨h1, h2, r, g, cap, b1, hr, ht, hp, hg, hg2, hc, hC⟩ hk
    exact ⟨h1, h2, r, g, cap, b1, (hk b h1 h2).trans hr, ht, hp, hg, hg2, (World.cell?_of_block (hk g (by omega) hg2)).trans hc, ih hC fun k hk1 hk2 => hk k (by omega) hk2⟩
  | two _ c d ih1 ih2 =>
    rintro lo b ⟨h1, h2, r, g, cap, b1, b2, hr, ht, hp, hg, hg2, hc, hc2, hC, hD⟩ hk
    exact ⟨h1, h2, r, g, cap, b1, b2, (hk b h1 h2).trans hr, ht, hp, hg, hg2, (World.cell?_of_block (hk g (by omega) hg2)).trans hc, (World.cell?_of_block (hk g (by omega) hg2)).trans hc2,
      ih1 hC fun k hk1 hk2 => hk k (by omega) hk2, ih2 hD fun k hk1 hk2 => hk k (by omega) hk2⟩
  | more _ _ _ _ _ => intro lo b h; exact False.elim h
theorem CndAt.mono {hi hi' : Nat} {w : World} {c : Cnd} (hh : hi ≤ hi') : ∀ {lo lo' b : Nat}, CndAt hi w c lo b → lo' ≤ lo → CndAt hi' w c lo' b := by
  induction c using Cnd.ind with
  | any => rintro lo lo' b ⟨h1, h2, h⟩ hl; exact ⟨by omega, by omega, h⟩
  | val a x => rintro lo lo' b ⟨h1, h2, h⟩ hl; exact ⟨by omega, by omega, h⟩
  | same a x => rintro lo lo' b ⟨h1, h2, h⟩ hl; exact ⟨by omega, by omega, h⟩
  | isin a t m o => rintro lo lo' b ⟨h1, h2, h⟩ hl; exact ⟨by omega, by omega, h⟩
  | neg _ c ih =>
    rintro lo lo' b ⟨h1, h2, r, g, cap, b1, hr, ht, hp, hg, hg2, hc, hC⟩ hl
    exact ⟨by omega, by omega, r, g, cap, b1, hr, ht, hp, hg, by omega, hc, ih hC (Nat.le_refl _)⟩
  | two _ c d ih1 ih2 =>
    rintro lo lo' b ⟨h1, h2, r, g, cap, b1, b2, hr, ht, hp, hg, hg2, hc, hc2, hC, hD⟩ hl
    exact ⟨by omega, by omega, r, g, cap, b1, b2, hr, ht, hp, hg, by omega, hc, hc2, ih1 hC (Nat.le_refl _), ih2 hD (Nat.le_refl _)⟩
  | more _ _ _ _ _ => intro lo lo' b h; exact False.elim h
theorem CndAt.blk {hi : Nat} {w : World} {c : Cnd} {lo b : Nat} (h : CndAt hi w c lo b) : lo ≤ b ∧ b < hi ∧ ∃ r, CBk w b r := by
  induction c using Cnd.ind with
  | any => obtain ⟨h1, h2, r, hr, _⟩ := h; exact ⟨h1, h2, r, hr⟩
  | val a x => obtain ⟨h1, h2, r, hr, _⟩ := h; exact ⟨h1, h2, r, hr⟩
  | same a x => obtain ⟨h1, h2, r, hr, _⟩ := h; exact ⟨h1, h2, r, hr⟩
  | isin a t m o => obtain ⟨h1, h2, r, hr, _⟩ := h; exact ⟨h1, h2, r, hr⟩
  | neg _ c _ => obtain ⟨h1, h2, r, g, cap, b1, hr, _⟩ := h; exact ⟨h1, h2, r, hr⟩
  | two _ c d _ _ => obtain ⟨h1, h2, r, g, cap, b1, b2, hr, _⟩ := h; exact ⟨h1, h2, r, hr⟩
  | more _ _ _ _ _ => exact False.elim h
/-- Its place is written into it. -/
theorem CBk.place {w : World} {b : Nat} {r : Raw} (h : CBk w b r) (p : Int) : CBk (w.setCell ⟨b, 11, none⟩ (.int .i64 p)) b { r with pl := p } := by
  unfold CBk at *
  simp only [World.setCell, Array.getElem?_modify, h]
  simp [Raw.row]
theorem CndAt.place {hi : Nat} {w : World} {c : Cnd} {lo b : Nat} (h : CndAt hi w c lo b) (p : Int) : CndAt hi (w.setCell ⟨b, 11, none⟩ (.int .i64 p)) c lo b := by
  have ho : ∀ k, k ≠ b → (w.setCell ⟨b, 11, none⟩ (.int .i64 p)).heap[k]? = w.heap[k]? := fun k hk => Below.heap_setCell _ _ _ _ hk
  induction c using Cnd.ind with
  | any => obtain ⟨h1, h2, r, hr, h⟩ := h; exact ⟨h1, h2, _, hr.place p, h⟩
  | val a x => obtain ⟨h1, h2, r, hr, h⟩ := h; exact ⟨h1, h2, _, hr.place p, h⟩
  | same a x => obtain ⟨h1, h2, r, hr, h⟩ := h; exact ⟨h1, h2, _, hr.place p, h⟩
  | isin a t m o => obtain ⟨h1, h2, r, hr, h⟩ := h; exact ⟨h1, h2, _, hr.place p, h⟩
  | neg _ c _ =>
    obtain ⟨h1, h2, r, g, cap, b1, hr, ht, hp, hg, hg2, hc, hC⟩ := h
    exact ⟨h1, h2, _, g, cap, b1, hr.place p, ht, hp, hg, hg2, (World.cell?_of_block (ho g (by omega))).trans hc, hC.keep fun k hk1 hk2 => ho k (by omega)⟩
  | two _ c d _ _ =>
    obtain ⟨h1, h2, r, g, cap, b1, b2, hr, ht, hp, hg, hg2, hc, hc2, hC, hD⟩ := h
    exact ⟨h1, h2, _, g, cap, b1, b2, hr.place p, ht, hp, hg, hg2, (World.cell?_of_block (ho g (by omega))).trans hc, (World.cell?_of_block (ho g (by omega))).trans hc2,
      hC.keep fun k hk1 hk2 => ho k (by omega), hD.keep fun k hk1 hk2 => ho k (by omega)⟩
  | more _ _ _ _ _ => exact False.elim h

/-- What a reader of a condition answers, called in world w. -/
def CAns (w0 w : World) (vs vw : Value) (ws : List (List UInt8)) (errno : Int) (rule : Bool) (o : Option (Cnd × Nat)) (e : Ending) (w' : World) : Prop :=
  (match o with
    | some (c, j) => ∃ b, e = .returned (.tuple #[.pointer (some ⟨b, 0, none⟩), .nilIface]) ∧ CndAt w'.heap.size w' c w.heap.size b ∧ RX w0 w' vs vw ws j errno rule
    | none => ∃ te pe, e = .returned (.tuple #[.pointer none, .iface te pe]) ∧ Err w' errno (.iface te pe)) ∧ Stp w0.heap.size w w'

set_option maxRecDepth 10000 in
set_option maxHeartbeats 1000000 in
theorem psame_yes (rb a c : Nat) (w : World) (P : World → Prop)
    (h2 : Calls Tryz.prog 246 #[.pointer (some ⟨rb, 0, none⟩)] w fun e w' => e = .returned (.tuple #[.int .i64 a, .int .i64 c, .nilIface]) ∧ P w') :
    Calls Tryz.prog 329 #[.pointer (some ⟨rb, 0, none⟩)] w fun e w' => ∃ w1, P w1 ∧ e = .returned (.tuple #[.pointer (some ⟨w1.heap.size, 0, none⟩), .nilIface]) ∧
      w' = w1.alloc (.cells (Raw.row { test := 3, col := a, vt := 0, vn := 0, vs := ByteArray.empty, me := false, other := c, table := 0, mtch := 0, who := 0, parts := .slice none 0 0, pl := 0 }) 436) := by
  go_enter Tryz.func329, Tryz.ntmps329
  go_wp2_with (go_at_call 246; refine h2.mono ?_; rintro e w1 ⟨rfl, hP⟩)
  go_ret2
  exact ⟨w1, hP, rfl, rfl⟩
set_option maxRecDepth 10000 in
set_option maxHeartbeats 1000000 in
theorem psame_no (rb : Nat) (w : World) (P : Value → World → Prop)
    (h2 : Calls Tryz.prog 246 #[.pointer (some ⟨rb, 0, none⟩)] w fun e w' => ∃ (a b : Int) (te : TypeId) (pe : Value), e = .returned (.tuple #[.int .i64 a, .int .i64 b, .iface te pe]) ∧ P (.iface te pe) w') :
    Calls Tryz.prog 329 #[.pointer (some ⟨rb, 0, none⟩)] w fun e w' => ∃ te pe, e = .returned (.tuple #[.pointer none, .iface te pe]) ∧ P (.iface te pe) w' := by
  go_enter Tryz.func329, Tryz.ntmps329
  go_wp2_with (go_at_call 246; refine h2.mono ?_; rintro e w1 ⟨a, b, te, pe, rfl, hP⟩)
  go_ret2
  exact ⟨te, pe, rfl, hP⟩
end Go.Proofs.YtnpjldffciociaaGreatDoor
namespace Go.Proofs.YtnpjldffciociaaGreatDoor
open Go.RowKit

theorem RX.other {w0 w w' : World} {vs vw : Value} {ws : List (List UInt8)} {taken t0 k : Nat} {errno : Int} {rule : Bool} {wk : World} (h : RX w0 w vs vw ws taken errno rule) (hg : w.grownBy w' (some k)) (h0 : RX w0 wk vs vw ws t0 errno rule) (hk0 : wk.heap.size ≤ k) (hkw : wk.heap.size ≤ w.heap.size) : RX w0 w' vs vw ws taken errno rule := by
  have hk : w0.heap.size < k := Nat.lt_of_lt_of_le h0.rd.lt hk0
  have hne : some w0.heap.size ≠ some k := by simp; omega
  have hb : w'.heap[w0.heap.size]? = w.heap[w0.heap.size]? := hg.block _ h.rd.lt hne
  refine ⟨⟨(World.cell?_of_block (a := ⟨_, 0, none⟩) hb).trans h.rd.c0, (World.cell?_of_block (a := ⟨_, 1, none⟩) hb).trans h.rd.c1, (World.cell?_of_block (a := ⟨_, 2, none⟩) hb).trans h.rd.c2, (World.cell?_of_block (a := ⟨_, 3, none⟩) hb).trans h.rd.c3,
    (World.cell?_of_block (a := ⟨_, 4, none⟩) hb).trans h.rd.c4, (World.frozen?_of_block (a := ⟨_, 2, none⟩) hb).trans h.rd.fz, Nat.lt_of_lt_of_le h.rd.lt hg.size⟩, ?_, h.reads.keepAt h0.reads hg.size (fun q hq _ => hg.block q (by omega) (by simp; omega)), h.len, h.short⟩
  exact ⟨hg.os.trans h.bel.os, hg.tape.trans h.bel.tape, hg.output.trans h.bel.output, Nat.le_trans h.bel.size hg.size, fun i hi => (hg.block i (by have := h.bel.size; omega) (by simp; omega)).trans (h.bel.block i hi)⟩
theorem Stp.other {rb k : Nat} {w w2 w' : World} (h : Stp rb w w2) (hg : w2.grownBy w' (some k)) (hk : w.heap.size ≤ k) : Stp rb w w' :=
  ⟨hg.os.trans h.os, hg.tape.trans h.tape, hg.output.trans h.output, Nat.le_trans h.size hg.size, fun i hi hn => (hg.block i (Nat.lt_of_lt_of_le hi h.size) (by simp; omega)).trans (h.block i hi hn)⟩
theorem zeroS {w W : World} {ty : TypeId} {rb : Nat} (hS : Stp rb (w.alloc (.cells #[.int .i64 0, .int .i64 0, .string ⟨#[]⟩] ty)) W) (hrb : rb < w.heap.size) :
    w.heap.size < W.heap.size ∧ W.cell? ⟨w.heap.size, 0, none⟩ = some (.int .i64 0) ∧ W.cell? ⟨w.heap.size, 1, none⟩ = some (.int .i64 0) ∧ W.cell? ⟨w.heap.size, 2, none⟩ = some (.string ⟨#[]⟩) ∧ (∀ i, W.frozen? ⟨w.heap.size, i, none⟩ = false) := by
  have hz : w.heap.size < W.heap.size := by have := hS.size; simp at this; omega
  have hb : W.heap[w.heap.size]? = (w.alloc (.cells #[.int .i64 0, .int .i64 0, .string ⟨#[]⟩] ty)).heap[w.heap.size]? := hS.block _ (by simp) (by simp; omega)
  refine ⟨hz, (World.cell?_of_block (a := ⟨_, 0, none⟩) hb).trans (by simp), (World.cell?_of_block (a := ⟨_, 1, none⟩) hb).trans (by simp), (World.cell?_of_block (a := ⟨_, 2, none⟩) hb).trans (by simp), fun i => (World.frozen?_of_block (a := ⟨_, i, none⟩) hb).trans (by simp)⟩
theorem grown_sets (w : World) (k : Nat) (x y z : Value) : w.grownBy (((w.setCell ⟨k, 0, none⟩ x).setCell ⟨k, 1, none⟩ y).setCell ⟨k, 2, none⟩ z) (some k) := by
  have h : ∀ (w : World) (i : Nat) (u : Value), w.grownBy (w.setCell ⟨k, i, none⟩ u) (some k) := fun w i u => ⟨rfl, rfl, rfl, by simp [World.setCell], fun j _ hj => Below.heap_setCell _ _ _ _ (fun e => hj (by simp [e]))⟩
  have ht : ∀ {a b c : World}, a.grownBy b (some k) → b.grownBy c (some k) → a.grownBy c (some k) := fun h h' => Stp.trans h h'
  exact ht (ht (h _ _ _) (h _ _ _)) (h _ _ _)

set_option maxRecDepth 10000 in
set_option maxHeartbeats 2000000 in
theorem pvom_me (rb : Nat) (w : World) (P : World → Prop) (hrb : rb < w.heap.size)
    (hw : ∀ o, Calls Tryz.prog 156 #[.pointer (some ⟨rb, 0, none⟩)] (w.alloc o) fun e w' => e = .returned (.string (bs wMe)) ∧ Stp rb (w.alloc o) w' ∧ P w') :
    Calls Tryz.prog 355 #[.pointer (some ⟨rb, 0, none⟩)] w fun e w' => e = .returned (.tuple #[.agg #[.int .i64 2, .int .i64 0, .string ⟨#[]⟩], .bool true, .nilIface]) ∧ ∃ w1, P w1 ∧ w1.grownBy w' (some w.heap.size) := by
  have hbs := bs_toList2
  go_enter Tryz.func355, Tryz.ntmps355
  go_wp2_with (go_at_call 156; with_reducible refine (hw _).mono ?_; rintro e W ⟨rfl, hS, hP⟩; obtain ⟨hz, j0, j1, j2, jf⟩ := zeroS hS hrb)
  obtain ⟨e0, e1, e2⟩ := three_set (W := W) (h := w.heap.size) (x := .int .i64 2) (y := .int .i64 0) (z := .string ⟨#[]⟩) j0 j1 j2
  refine bodyPost_ret (v := .tuple #[.agg #[.int .i64 2, .int .i64 0, .string ⟨#[]⟩], .bool true, .nilIface]) (by simp [results, Tryz.results355, go_sem, e0, e1, e2]) rfl ⟨rfl, W, hP, ?_⟩
  exact grown_sets _ _ _ _ _

theorem liftV {W V : World} {b : Nat} {v0 v1 v2 : Value} (hb : Below W.heap.size W V) (hz : b < W.heap.size) (j0 : W.cell? ⟨b, 0, none⟩ = some v0) (j1 : W.cell? ⟨b, 1, none⟩ = some v1) (j2 : W.cell? ⟨b, 2, none⟩ = some v2) (jf : ∀ i, W.frozen? ⟨b, i, none⟩ = false) :
    (∀ x, (V.alloc x).cell? ⟨b, 0, none⟩ = some v0) ∧ (∀ x, (V.alloc x).cell? ⟨b, 1, none⟩ = some v1) ∧ (∀ x, (V.alloc x).cell? ⟨b, 2, none⟩ = some v2) ∧ (∀ x i, (V.alloc x).frozen? ⟨b, i, none⟩ = false) := by
  have hB : ∀ x, Below W.heap.size W (V.alloc x) := fun x => hb.alloc hb.size x
  exact ⟨fun x => ((hB x).cell (p := ⟨b, 0, none⟩) hz).trans j0, fun x => ((hB x).cell (p := ⟨b, 1, none⟩) hz).trans j1, fun x => ((hB x).cell (p := ⟨b, 2, none⟩) hz).trans j2, fun x i => ((hB x).frozen (p := ⟨b, i, none⟩) hz).trans (jf i)⟩

set_option maxRecDepth 10000 in
set_option maxHeartbeats 2000000 in
theorem pvom_val (rb : Nat) (w : World) (P : World → Prop) (Q : Int → Int → ByteArray → Value → World → Prop) (x : List UInt8) (hx : (x == wMe) = false) (hrb : rb < w.heap.size)
    (hw : ∀ o, Calls Tryz.prog 156 #[.pointer (some ⟨rb, 0, none⟩)] (w.alloc o) fun e w' => e = .returned (.string (bs x)) ∧ Stp rb (w.alloc o) w' ∧ P w')
    (hv : ∀ w1, P w1 → Calls Tryz.prog 211 #[.pointer (some ⟨rb, 0, none⟩), .string (bs x)] w1 fun e w' => (∃ t n S ev, e = .returned (.tuple #[.agg #[.int .i64 t, .int .i64 n, .string S], ev]) ∧ Q t n S ev w') ∧ Below w1.heap.size w1 w') :
    Calls Tryz.prog 355 #[.pointer (some ⟨rb, 0, none⟩)] w fun e w' => ∃ t n S ev w2, e = .returned (.tuple #[.agg #[.int .i64 t, .int .i64 n, .string S], .bool false, ev]) ∧ Q t n S ev w2 ∧ w2.grownBy w' (some w.heap.size) ∧
      (t = 0 → n = 0 → S = ⟨#[]⟩ → ∀ p v, w2.cell? p = some v → w'.cell? p = some v) := by
  have hbs := bs_toList2
  go_enter Tryz.func355, Tryz.ntmps355
  go_wp2_with (first
    | (go_at_call 156; with_reducible refine (hw _).mono ?_; rintro e W ⟨rfl, hS, hP⟩; obtain ⟨hz, j0, j1, j2, jf⟩ := zeroS hS hrb)
    | (go_at_call 211; with_reducible refine (hv _ hP).mono ?_; rintro e V ⟨⟨t, n, S, ev, rfl, hQ⟩, hbV⟩; obtain ⟨k0, k1, k2, kf⟩ := liftV hbV hz j0 j1 j2 jf))
  have hbA : Below V.heap.size V (V.alloc (.cells #[.int .i64 t, .int .i64 n, .string S] 335)) := (Below.refl _ _).alloc (Nat.le_refl _) _
  obtain ⟨e0, e1, e2⟩ := three_set (W := V.alloc (.cells #[.int .i64 t, .int .i64 n, .string S] 335)) (h := w.heap.size) (x := .int .i64 t) (y := .int .i64 n) (z := .string S) (k0 _) (k1 _) (k2 _)
  refine bodyPost_ret (v := .tuple #[.agg #[.int .i64 t, .int .i64 n, .string S], .bool false, ev]) (by simp [results, Tryz.results355, go_sem, e0, e1, e2]) rfl ⟨t, n, S, ev, V, rfl, hQ, ?_, ?_⟩
  · exact Stp.trans (Stp.of_below hbA) (grown_sets _ _ _ _ _)
  · rintro rfl rfl rfl p v hp
    have hpb : p.block < V.heap.size := World.block_lt_of_cell? V p hp
    have hp' : (V.alloc (.cells #[.int .i64 0, .int .i64 0, .string ⟨#[]⟩] 335)).cell? p = some v := (hbA.cell (p := p) hpb).trans hp
    have s0 := set_same (k0 (.cells #[.int .i64 0, .int .i64 0, .string ⟨#[]⟩] 335))
    have s1 := set_same (s0 _ _ (k1 _))
    have s2 := set_same (s1 _ _ (s0 _ _ (k2 _)))
    exact s2 _ _ (s1 _ _ (s0 _ _ hp'))
end Go.Proofs.YtnpjldffciociaaGreatDoor
namespace Go.Proofs.YtnpjldffciociaaGreatDoor
open Go.RowKit

/-- What a value, or me, is. -/
def vomR (x : List UInt8) : Option Bool := if x = wMe then some true else valKind x
def VAns (w0 w : World) (vs vw : Value) (ws : List (List UInt8)) (taken : Nat) (errno : Int) (rule : Bool) (o : Option Bool) (e : Ending) (w' : World) : Prop :=
  (match o with
    | some b => (∃ n S me, e = .returned (.tuple #[.agg #[.int .i64 (tnum b), .int .i64 n, .string S], .bool me, .nilIface])) ∧ RX w0 w' vs vw ws (taken + 1) errno rule
    | none => ∃ te pe, e = .returned (.tuple #[.agg #[.int .i64 0, .int .i64 0, .string ⟨#[]⟩], .bool false, .iface te pe]) ∧ Err w' errno (.iface te pe)) ∧ Stp w0.heap.size w w'
theorem xvom (w0 w : World) (vs vw : Value) (ws : List (List UInt8)) (taken : Nat) (errno : Int) (rule : Bool) (h : RX w0 w vs vw ws taken errno rule) (ht : taken ≤ 16777216) (hg : Glob w0) :
    Calls Tryz.prog 355 #[.pointer (some ⟨w0.heap.size, 0, none⟩)] w fun e w' => VAns w0 w vs vw ws taken errno rule (vomR (wordAt ws taken)) e w' := by
  have hlt := h.rd.lt
  have hba : ∀ o, Below w.heap.size w (w.alloc o) := fun o => (Below.refl _ _).alloc (Nat.le_refl _) o
  have hw : ∀ o, Calls Tryz.prog 156 #[.pointer (some ⟨w0.heap.size, 0, none⟩)] (w.alloc o) fun e w' => e = .returned (.string (bs (wordAt ws taken))) ∧ Stp w0.heap.size (w.alloc o) w' ∧ RX w0 w' vs vw ws (taken + 1) errno rule ∧ Stp w0.heap.size w w' := fun o =>
    (xword w0 (w.alloc o) vs vw ws taken errno rule (h.below (hba o)) ht).mono fun e w' ⟨he, hX, hS⟩ => ⟨he, hS, hX, (Stp.of_below (hba o)).trans hS⟩
  have hxl := h.word_len taken
  generalize wordAt ws taken = x at *
  by_cases hx : x = wMe
  · subst hx
    refine (pvom_me w0.heap.size w _ hlt hw).mono ?_
    rintro e w' ⟨rfl, w1, ⟨hX, hS⟩, hgr⟩
    refine ⟨?_, hS.other hgr (Nat.le_refl _)⟩
    unfold vomR
    rw [if_pos rfl]
    exact ⟨⟨_, _, _, rfl⟩, hX.other hgr h (Nat.le_refl _) hS.size⟩
  · have hxb : (x == wMe) = false := by simpa using hx
    have hv : vomR x = valKind x := by unfold vomR; rw [if_neg hx]
    rw [hv]
    refine (pvom_val w0.heap.size w _ (fun t n S ev w' => (match valKind x with
      | some b => t = tnum b ∧ ev = .nilIface
      | none => t = 0 ∧ n = 0 ∧ S = ⟨#[]⟩ ∧ ∃ te pe, ev = .iface te pe ∧ Err w' errno (.iface te pe)) ∧ RX w0 w' vs vw ws (taken + 1) errno rule ∧ Stp w0.heap.size w w') x hxb hlt hw ?_).mono ?_
    · rintro w1 ⟨hX, hS⟩
      refine (xvalue w0 w1 vs vw ws (taken + 1) errno rule hX x hxl (hg.kept hX.bel)).mono ?_
      rintro e w' ⟨hA, hb⟩
      refine ⟨?_, hb⟩
      unfold RValAns at hA
      cases hk : valKind x with
      | some b =>
        rw [hk] at hA
        obtain ⟨n, S, rfl⟩ := hA
        exact ⟨_, n, S, _, rfl, ⟨rfl, rfl⟩, hX.below hb, hS.trans (Stp.of_below hb)⟩
      | none =>
        rw [hk] at hA
        obtain ⟨te, pe, rfl, hE⟩ := hA
        exact ⟨_, _, _, _, rfl, ⟨rfl, rfl, rfl, te, pe, rfl, hE⟩, hX.below hb, hS.trans (Stp.of_below hb)⟩
    · rintro e w' ⟨t, n, S, ev, w2, rfl, ⟨hA, hX, hS⟩, hgr, hcells⟩
      refine ⟨?_, hS.other hgr (Nat.le_refl _)⟩
      cases hk : valKind x with
      | some b =>
        rw [hk] at hA
        obtain ⟨rfl, rfl⟩ := hA
        exact ⟨⟨n, S, _, rfl⟩, hX.other hgr h (Nat.le_refl _) hS.size⟩
      | none =>
        rw [hk] at hA
        obtain ⟨rfl, rfl, rfl, te, pe, rfl, hE⟩ := hA
        exact ⟨te, pe, rfl, hE.same hgr.size (hcells rfl rfl rfl)⟩

abbrev leafRaw (test col vt vn : Int) (S : ByteArray) (me : Bool) : Raw := { test := test, col := col, vt := vt, vn := vn, vs := S, me := me, other := 0, table := 0, mtch := 0, who := 0, parts := .slice none 0 0, pl := 0 }
set_option maxRecDepth 10000 in
set_option maxHeartbeats 1000000 in
theorem pequal_col (rb : Nat) (w : World) (P : Value → World → Prop)
    (h1 : Calls Tryz.prog 210 #[.pointer (some ⟨rb, 0, none⟩)] w fun e w' => ∃ te pe, e = .returned (.tuple #[.int .i64 0, .iface te pe]) ∧ P (.iface te pe) w') :
    Calls Tryz.prog 327 #[.pointer (some ⟨rb, 0, none⟩)] w fun e w' => ∃ te pe, e = .returned (.tuple #[.pointer none, .iface te pe]) ∧ P (.iface te pe) w' := by
  go_enter Tryz.func327, Tryz.ntmps327
  go_wp2_with (go_at_call 210; refine h1.mono ?_; rintro e w1 ⟨te, pe, rfl, hP⟩)
  go_ret2
  exact ⟨te, pe, rfl, hP⟩
set_option maxRecDepth 10000 in
set_option maxHeartbeats 1000000 in
theorem pequal_val (rb a : Nat) (w : World) (P : World → Prop) (Q : Value → World → Prop)
    (h1 : Calls Tryz.prog 210 #[.pointer (some ⟨rb, 0, none⟩)] w fun e w' => e = .returned (.tuple #[.int .i64 a, .nilIface]) ∧ P w')
    (h2 : ∀ w1, P w1 → Calls Tryz.prog 355 #[.pointer (some ⟨rb, 0, none⟩)] w1 fun e w' => ∃ te pe, e = .returned (.tuple #[.agg #[.int .i64 0, .int .i64 0, .string ⟨#[]⟩], .bool false, .iface te pe]) ∧ Q (.iface te pe) w') :
    Calls Tryz.prog 327 #[.pointer (some ⟨rb, 0, none⟩)] w fun e w' => ∃ te pe w1, e = .returned (.tuple #[.pointer none, .iface te pe]) ∧ Q (.iface te pe) w1 ∧ Below w1.heap.size w1 w' := by
  go_enter Tryz.func327, Tryz.ntmps327
  go_wp2_with (first
    | (go_at_call 210; refine h1.mono ?_; rintro e w1 ⟨rfl, hP⟩)
    | (go_at_call 355; refine (h2 _ hP).mono ?_; rintro e w2 ⟨te, pe, rfl, hQ⟩))
  go_ret2
  exact ⟨te, pe, w2, rfl, hQ, (Below.refl _ _).alloc (Nat.le_refl _) _⟩
set_option maxRecDepth 10000 in
set_option maxHeartbeats 1000000 in
theorem pequal_yes (rb a : Nat) (t : Int) (w : World) (P Q : World → Prop)
    (h1 : Calls Tryz.prog 210 #[.pointer (some ⟨rb, 0, none⟩)] w fun e w' => e = .returned (.tuple #[.int .i64 a, .nilIface]) ∧ P w')
    (h2 : ∀ w1, P w1 → Calls Tryz.prog 355 #[.pointer (some ⟨rb, 0, none⟩)] w1 fun e w' => (∃ n S me, e = .returned (.tuple #[.agg #[.int .i64 t, .int .i64 n, .string S], .bool me, .nilIface])) ∧ Q w') :
    Calls Tryz.prog 327 #[.pointer (some ⟨rb, 0, none⟩)] w fun e w' => ∃ w1 w2 n S me, Q w1 ∧ Below w1.heap.size w1 w2 ∧ e = .returned (.tuple #[.pointer (some ⟨w2.heap.size, 0, none⟩), .nilIface]) ∧
      w' = w2.alloc (.cells (leafRaw 1 a t n S me).row 436) := by
  go_enter Tryz.func327, Tryz.ntmps327
  go_wp2_with (first
    | (go_at_call 210; refine h1.mono ?_; rintro e w1 ⟨rfl, hP⟩)
    | (go_at_call 355; refine (h2 _ hP).mono ?_; rintro e w2 ⟨⟨n, S, me, rfl⟩, hQ⟩))
  go_ret2
  exact ⟨w2, w2.alloc (.cells #[.int .i64 t, .int .i64 n, .string S] 335), n, S, me, hQ, (Below.refl _ _).alloc (Nat.le_refl _) _, by simp, rfl⟩
end Go.Proofs.YtnpjldffciociaaGreatDoor
