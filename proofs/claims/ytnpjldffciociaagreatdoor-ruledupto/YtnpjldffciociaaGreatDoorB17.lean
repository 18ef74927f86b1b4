import Derived.Test.YtnpjldffciociaaGreatDoorB16
import Derived.Deep.RegionWith
namespace Go.Proofs.YtnpjldffciociaaGreatDoor
open Go.RowKit

/-- The reader in block rb: what it reads, and how far it has come. -/
structure RD (w : World) (rb : Nat) (vs vw : Value) (taken : Nat) (errno : Int) (rule : Bool) : Prop where
  c0 : w.cell? ⟨rb, 0, none⟩ = some vs
  c1 : w.cell? ⟨rb, 1, none⟩ = some vw
  c2 : w.cell? ⟨rb, 2, none⟩ = some (.int .i64 taken)
  c3 : w.cell? ⟨rb, 3, none⟩ = some (.int .i64 errno)
  c4 : w.cell? ⟨rb, 4, none⟩ = some (.bool rule)
  fz : w.frozen? ⟨rb, 2, none⟩ = false
  lt : rb < w.heap.size

theorem RD.below {w w' : World} {rb : Nat} {vs vw : Value} {taken : Nat} {errno : Int} {rule : Bool} (h : RD w rb vs vw taken errno rule) (hb : Below w.heap.size w w') : RD w' rb vs vw taken errno rule :=
  ⟨(hb.cell (p := ⟨rb, 0, none⟩) h.lt).trans h.c0, (hb.cell (p := ⟨rb, 1, none⟩) h.lt).trans h.c1, (hb.cell (p := ⟨rb, 2, none⟩) h.lt).trans h.c2, (hb.cell (p := ⟨rb, 3, none⟩) h.lt).trans h.c3,
    (hb.cell (p := ⟨rb, 4, none⟩) h.lt).trans h.c4, (hb.frozen (p := ⟨rb, 2, none⟩) h.lt).trans h.fz, Nat.lt_of_lt_of_le h.lt hb.size⟩

theorem RD.step {w : World} {rb : Nat} {vs vw : Value} {taken : Nat} {errno : Int} {rule : Bool} (h : RD w rb vs vw taken errno rule) (m : Nat) : RD ((w.setCell ⟨rb, 2, none⟩ (.int .i64 ((taken : Int) + 1))).drewN m) rb vs vw (taken + 1) errno rule := by
  have e : ∀ i, i ≠ 2 → ((w.setCell ⟨rb, 2, none⟩ (.int .i64 ((taken : Int) + 1))).drewN m).cell? ⟨rb, i, none⟩ = w.cell? ⟨rb, i, none⟩ := by
    intro i hi
    rw [World.cell?_drewN, World.cell?_setCell_other]
    simp only [ne_eq, Addr.mk.injEq, not_and]
    omega
  refine ⟨(e 0 (by decide)).trans h.c0, (e 1 (by decide)).trans h.c1, ?_, (e 3 (by decide)).trans h.c3, (e 4 (by decide)).trans h.c4, ?_, ?_⟩
  · rw [World.cell?_drewN, World.cell?_setCell_same _ _ _ h.c2]; simp
  · simpa using h.fz
  · simpa using h.lt

set_option maxRecDepth 10000 in
set_option maxHeartbeats 1000000 in
theorem pword_in (w : World) (rb bw offw n cap taken : Nat) (x : List UInt8) (hr2 : w.cell? ⟨rb, 2, none⟩ = some (.int .i64 taken)) (hr1 : w.cell? ⟨rb, 1, none⟩ = some (.slice (some ⟨bw, offw, none⟩) n cap)) (hfz : w.frozen? ⟨rb, 2, none⟩ = false)
    (hne : ¬ bw = rb) (ht : taken < n) (hn : n ≤ 1048577) (hx : w.cell? ⟨bw, offw + taken, none⟩ = some (.string (bs x))) :
    Calls Tryz.prog 156 #[.pointer (some ⟨rb, 0, none⟩)] w fun e w' => e = .returned (.string (bs x)) ∧ ∃ m, w' = (w.setCell ⟨rb, 2, none⟩ (.int .i64 ((taken : Int) + 1))).drewN m := by
  have s2 : (w.setCell ⟨rb, 2, none⟩ (.int .i64 ((taken : Int) + 1))).cell? ⟨rb, 2, none⟩ = some (.int .i64 ((taken : Int) + 1)) := World.cell?_setCell_same _ _ _ hr2
  have s1 : (w.setCell ⟨rb, 2, none⟩ (.int .i64 ((taken : Int) + 1))).cell? ⟨rb, 1, none⟩ = some (.slice (some ⟨bw, offw, none⟩) n cap) := by
    rw [World.cell?_setCell_other]
    · exact hr1
    · simp
  have sx : (w.setCell ⟨rb, 2, none⟩ (.int .i64 ((taken : Int) + 1))).cell? ⟨bw, offw + taken, none⟩ = some (.string (bs x)) := by
    rw [World.cell?_setCell_other]
    · exact hx
    · simp only [ne_eq, Addr.mk.injEq, not_and]; intro h; exact absurd h.symm hne
  have h1 : ¬ ((n : Int) < (taken : Int) + 1) := by omega
  have h2 : (taken : Int) < (n : Int) := by omega
  have h3 : IntKind.i64.wrap ((taken : Int) + 1 - 1) = (taken : Int) := by rw [IntWalk.i64_in _ (by omega)]; omega
  go_enter Tryz.func156, Tryz.ntmps156
  go_wp2
  go_quiet (fail)
  go_wp2
  go_quiet (fail)
  go_wp2
  go_ret
  all_goals refine ⟨rfl, ?_⟩
  all_goals simp
  all_goals exact ⟨_, rfl⟩

set_option maxRecDepth 10000 in
set_option maxHeartbeats 1000000 in
theorem pword_out (w : World) (rb n cap taken : Nat) (a : Option Addr) (hr2 : w.cell? ⟨rb, 2, none⟩ = some (.int .i64 taken)) (hr1 : w.cell? ⟨rb, 1, none⟩ = some (.slice a n cap)) (hfz : w.frozen? ⟨rb, 2, none⟩ = false)
    (ht : n ≤ taken) (_hn : n ≤ 1048577) (ht2 : taken ≤ 16777216) :
    Calls Tryz.prog 156 #[.pointer (some ⟨rb, 0, none⟩)] w fun e w' => e = .returned (.string (bs [])) ∧ ∃ m, w' = (w.setCell ⟨rb, 2, none⟩ (.int .i64 ((taken : Int) + 1))).drewN m := by
  have s2 : (w.setCell ⟨rb, 2, none⟩ (.int .i64 ((taken : Int) + 1))).cell? ⟨rb, 2, none⟩ = some (.int .i64 ((taken : Int) + 1)) := World.cell?_setCell_same _ _ _ hr2
  have s1 : (w.setCell ⟨rb, 2, none⟩ (.int .i64 ((taken : Int) + 1))).cell? ⟨rb, 1, none⟩ = some (.slice a n cap) := by
    rw [World.cell?_setCell_other]
    · exact hr1
    · simp
  have h1 : (n : Int) < (taken : Int) + 1 := by omega
  go_enter Tryz.func156, Tryz.ntmps156
  go_wp2
  go_quiet (fail)
  go_wp2
  go_ret
  exact ⟨rfl, _, by first | rfl | simp⟩

/-- The next word; empty behind the last one. -/
theorem pword_any (w : World) (rb : Nat) (vs vw : Value) (taken : Nat) (errno : Int) (rule : Bool) (ws : List (List UInt8)) (h : RD w rb vs vw taken errno rule) (hv : Reads w vw (ws.map fun l => .string (bs l))) (hl : ws.length ≤ 1048577) (ht : taken ≤ 16777216)
    (hne : ∀ bw off n cap, vw = .slice (some ⟨bw, off, none⟩) n cap → ¬ bw = rb) :
    Calls Tryz.prog 156 #[.pointer (some ⟨rb, 0, none⟩)] w fun e w' => e = .returned (.string (bs (wordAt ws taken))) ∧ ∃ m, w' = (w.setCell ⟨rb, 2, none⟩ (.int .i64 ((taken : Int) + 1))).drewN m := by
  by_cases hlt : taken < ws.length
  · obtain ⟨b, off, cap, rfl, hc⟩ := hv.row hlt
    exact pword_in w rb b off _ cap taken _ h.c2 h.c1 h.fz (hne _ _ _ _ rfl) hlt hl (hc taken hlt)
  · have e : wordAt ws taken = [] := by simp [wordAt, hlt]
    rw [e]
    obtain ⟨a, cap, rfl, _⟩ := hv
    rw [List.length_map] at h
    exact pword_out w rb _ cap taken a h.c2 h.c1 h.fz (by omega) hl ht

set_option maxRecDepth 10000 in
set_option maxHeartbeats 1000000 in
theorem pfault_any (w : World) (rb : Nat) (errno : Int) (s : ByteArray) (hr3 : w.cell? ⟨rb, 3, none⟩ = some (.int .i64 errno)) :
    Calls Tryz.prog 98 #[.pointer (some ⟨rb, 0, none⟩), .string s] w fun e w' => e = .returned (.iface 175 (.pointer (some ⟨w.heap.size, 0, none⟩))) ∧ w' = w.alloc (.cells #[.int .i64 errno, .string s] 179) := by
  go_enter Tryz.func98, Tryz.ntmps98
  go_wp2
  go_ret
  exact ⟨rfl, rfl⟩

set_option maxRecDepth 10000 in
set_option maxHeartbeats 1000000 in
theorem pplace_any (w : World) (rb taken : Nat) (hr2 : w.cell? ⟨rb, 2, none⟩ = some (.int .i64 taken)) (ht : taken ≤ 16777216) :
    Calls Tryz.prog 151 #[.pointer (some ⟨rb, 0, none⟩)] w fun e w' => e = .returned (.int .i64 ((taken : Int) + 1)) ∧ w' = w := by
  go_enter Tryz.func151, Tryz.ntmps151
  go_wp2
  go_ret
  exact ⟨rfl, rfl⟩
end Go.Proofs.YtnpjldffciociaaGreatDoor
namespace Go.Proofs.YtnpjldffciociaaGreatDoor
open Go.RowKit

def typeNum (ts : List Bool) (c : Nat) : Int := match ts[c]? with
  | some b => tnum b
  | none => 0

theorem typeNum_in {ts : List Bool} {c : Nat} (h : c < ts.length) : typeNum ts c = tnum ts[c] := by simp [typeNum, h]
theorem typeNum_out {ts : List Bool} {c : Nat} (h : ¬ c < ts.length) : typeNum ts c = 0 := by simp [typeNum, h]

set_option maxRecDepth 10000 in
set_option maxHeartbeats 1000000 in
theorem ptypeAt_in (w : World) (b off n cap c : Nat) (t : Int) (hc : c < n) (_hn : n ≤ 1048577) (hx : w.cell? ⟨b, off + c, none⟩ = some (.int .i64 t)) :
    Calls Tryz.prog 212 #[.slice (some ⟨b, off, none⟩) n cap, .int .i64 c] w fun e w' => e = .returned (.int .i64 t) ∧ w' = w := by
  have h2 : (c : Int) < (n : Int) := by omega
  have h3 : ¬ (n : Int) ≤ (c : Int) := by omega
  go_enter Tryz.func212, Tryz.ntmps212
  go_wp2
  go_ret
  exact ⟨rfl, rfl⟩

set_option maxRecDepth 10000 in
set_option maxHeartbeats 1000000 in
theorem ptypeAt_out (w : World) (a : Option Addr) (n cap c : Nat) (hc : n ≤ c) (_hn : c ≤ 1048577) :
    Calls Tryz.prog 212 #[.slice a n cap, .int .i64 c] w fun e w' => e = .returned (.int .i64 0) ∧ w' = w := by
  have h3 : (n : Int) ≤ (c : Int) := by omega
  go_enter Tryz.func212, Tryz.ntmps212
  go_wp2
  go_ret
  exact ⟨rfl, rfl⟩

theorem ptypeAt_any (w : World) (v : Value) (ts : List Bool) (c : Nat) (hv : Reads w v (ts.map tcode)) (hl : ts.length ≤ 1048577) (hc : c ≤ 1048577) :
    Calls Tryz.prog 212 #[v, .int .i64 c] w fun e w' => e = .returned (.int .i64 (typeNum ts c)) ∧ w' = w := by
  by_cases h : c < ts.length
  · rw [typeNum_in h]
    obtain ⟨a, cap, rfl, hcl⟩ := hv
    obtain ⟨b, off, rfl, _, hx⟩ := hcl c (tcode ts[c]) (by simp [h])
    rw [List.length_map]
    exact ptypeAt_in w b off _ cap c _ h hl hx
  · rw [typeNum_out h]
    obtain ⟨a, cap, rfl, _⟩ := hv
    rw [List.length_map]
    exact ptypeAt_out w a _ cap c (by omega) hc

set_option maxRecDepth 10000 in
set_option maxHeartbeats 1000000 in
theorem palike_any (w : World) (v v2 : Value) (c c2 : Nat) (t t2 : Int)
    (h1 : Calls Tryz.prog 212 #[v, .int .i64 c] w fun e w' => e = .returned (.int .i64 t) ∧ w' = w)
    (h2 : Calls Tryz.prog 212 #[v2, .int .i64 c2] w fun e w' => e = .returned (.int .i64 t2) ∧ w' = w) :
    Calls Tryz.prog 248 #[v, .int .i64 c, v2, .int .i64 c2] w fun e w' => e = .returned (.bool (decide (t ≠ 0) && decide (t = t2))) ∧ w' = w := by
  by_cases h0 : t = 0
  · subst h0
    go_enter Tryz.func248, Tryz.ntmps248
    go_wp2_with (go_at_call 212; with_reducible refine h1.mono ?_; rintro e w' ⟨rfl, hw⟩; obtain rfl := hw.symm)
    go_ret
    exact ⟨by simp, rfl⟩
  · go_enter Tryz.func248, Tryz.ntmps248
    go_wp2_with (go_at_call 212; first | (with_reducible refine h1.mono ?_; rintro e w' ⟨rfl, hw⟩; obtain rfl := hw.symm) | (with_reducible refine h2.mono ?_; rintro e w' ⟨rfl, hw⟩; obtain rfl := hw.symm))
    go_ret
    refine ⟨?_, rfl⟩
    by_cases h3 : t = t2
    · subst h3; simp [h0]
    · simp [h3]

set_option maxRecDepth 10000 in
set_option maxHeartbeats 1000000 in
theorem pwrong_any (w : World) (rb taken : Nat) (errno : Int) (s : ByteArray) (hr2 : w.cell? ⟨rb, 2, none⟩ = some (.int .i64 taken)) (hr3 : w.cell? ⟨rb, 3, none⟩ = some (.int .i64 errno)) (hlt : rb < w.heap.size) :
    Calls Tryz.prog 159 #[.pointer (some ⟨rb, 0, none⟩), .string s] w fun e w' => ∃ te pe, e = .returned (.iface te pe) ∧ Err w' errno (.iface te pe) ∧ Below w.heap.size w w' := by
  have hne : w.heap.size ≠ rb := by omega
  go_enter Tryz.func159, Tryz.ntmps159
  go_wp2
  go_region_with (go_at_call 98; with_reducible refine (pfault_any _ rb errno s ?hr).mono ?_; (case hr => first | exact hr3 | simpa [hne] using hr3); rintro e w' ⟨rfl, rfl⟩)
  all_goals go_wp2
  all_goals go_ret
  all_goals exact ⟨172, .pointer (some ⟨w.heap.size + 1, 0, none⟩), rfl, Err.kept (Err.newWrap _ _ _ _ _) ((Below.refl _ _).drew), (((Below.refl _ _).alloc (Nat.le_refl _) _).alloc (by simp) _).drew⟩
end Go.Proofs.YtnpjldffciociaaGreatDoor
namespace Go.Proofs.YtnpjldffciociaaGreatDoor
open Go.RowKit

/-- All that was there is as it was, but for the block rb. -/
abbrev Stp (rb : Nat) (w w' : World) : Prop := w.grownBy w' (some rb)

theorem Stp.refl (rb : Nat) (w : World) : Stp rb w w := World.grownBy.refl _ _
theorem Stp.trans {rb : Nat} {a b c : World} (h : Stp rb a b) (k : Stp rb b c) : Stp rb a c :=
  ⟨k.os.trans h.os, k.tape.trans h.tape, k.output.trans h.output, Nat.le_trans h.size k.size, fun i hi hn => (k.block i (Nat.lt_of_lt_of_le hi h.size) hn).trans (h.block i hi hn)⟩
theorem Stp.of_below {rb : Nat} {w w' : World} (h : Below w.heap.size w w') : Stp rb w w' := ⟨h.os, h.tape, h.output, h.size, fun i hi _ => h.block i hi⟩
theorem Stp.set (rb : Nat) (w : World) (x : Value) (m : Nat) : Stp rb w ((w.setCell ⟨rb, 2, none⟩ x).drewN m) := by
  have h : Below 0 w ((w.setCell ⟨rb, 2, none⟩ x)) := (Below.refl 0 w).setCell (Nat.zero_le _) x
  exact ⟨h.os, h.tape, h.output, h.size, fun i _ hn => Below.heap_setCell w _ x i (by simpa using hn)⟩
theorem Stp.below {rb : Nat} {w w' : World} (h : Stp rb w w') (hr : rb ≤ w.heap.size) : Below rb w w' :=
  ⟨h.os, h.tape, h.output, h.size, fun i hi => h.block i (Nat.lt_of_lt_of_le hi hr) (by simp; omega)⟩

/-- A row in memory, nowhere in the reader's block. -/
def RdAt (rb : Nat) (w : World) (v : Value) (xs : List Value) : Prop :=
  ∃ a cap, v = .slice a xs.length cap ∧ ∀ (i : Nat) u, xs[i]? = some u → ∃ b off, a = some ⟨b, off, none⟩ ∧ b ≠ rb ∧ b < w.heap.size ∧ w.cell? ⟨b, off + i, none⟩ = some u
theorem RdAt.reads {rb : Nat} {w : World} {v : Value} {xs : List Value} (h : RdAt rb w v xs) : Reads w v xs := by
  obtain ⟨a, cap, rfl, h⟩ := h
  refine ⟨a, cap, rfl, fun i u hu => ?_⟩
  obtain ⟨b, off, rfl, _, hlt, hc⟩ := h i u hu
  exact ⟨b, off, rfl, hlt, hc⟩
theorem RdAt.stp {rb : Nat} {w w' : World} {v : Value} {xs : List Value} (h : RdAt rb w v xs) (hS : Stp rb w w') : RdAt rb w' v xs := by
  obtain ⟨a, cap, rfl, h⟩ := h
  refine ⟨a, cap, rfl, fun i u hu => ?_⟩
  obtain ⟨b, off, rfl, hne, hlt, hc⟩ := h i u hu
  exact ⟨b, off, rfl, hne, Nat.lt_of_lt_of_le hlt hS.size, (World.cell?_of_block (a := ⟨b, off + i, none⟩) (hS.block b hlt (by simpa using hne))).trans hc⟩
theorem RdAt.below {rb : Nat} {w w' : World} {v : Value} {xs : List Value} (h : RdAt rb w v xs) (hb : Below w.heap.size w w') : RdAt rb w' v xs := h.stp (Stp.of_below hb)
theorem RdAt.of_reads {w0 w : World} {v : Value} {xs : List Value} (h : Reads w0 v xs) (hb : Below w0.heap.size w0 w) : RdAt w0.heap.size w v xs := by
  obtain ⟨a, cap, rfl, h⟩ := h
  refine ⟨a, cap, rfl, fun i u hu => ?_⟩
  obtain ⟨b, off, rfl, hlt, hc⟩ := h i u hu
  exact ⟨b, off, rfl, by omega, Nat.lt_of_lt_of_le hlt hb.size, (hb.cell (p := ⟨b, off + i, none⟩) hlt).trans hc⟩
theorem RdAt.of_own {rb base n : Nat} {w : World} {v : Value} {xs : List Value} {e : TypeId} (h : w.ownsRow base e 1 v n xs) (hb : rb < base) : RdAt rb w v xs := by
  obtain ⟨a, cap, rfl, hr⟩ := Reads.of_owns h
  refine ⟨a, cap, rfl, fun i u hu => ?_⟩
  obtain ⟨b, off, rfl, hlt, hc⟩ := hr i u hu
  refine ⟨b, off, rfl, ?_, hlt, hc⟩
  rcases h.2 with ⟨h0, _⟩ | ⟨g, cap', cur, hg, hge, _⟩
  · cases h0
  · have hbg : b = g := by simp at hg; exact hg.1.1
    omega
/-- What was there at wk stays, where all that was there at wk stays but for the block rb. -/
theorem RdAt.keepAt {rb : Nat} {w wk w' : World} {v : Value} {xs : List Value} (h : RdAt rb w v xs) (h0 : RdAt rb wk v xs) (hs : w.heap.size ≤ w'.heap.size) (hk : ∀ q, q < wk.heap.size → q ≠ rb → w'.heap[q]? = w.heap[q]?) : RdAt rb w' v xs := by
  obtain ⟨a, cap, rfl, h⟩ := h
  obtain ⟨a2, cap2, he, h0⟩ := h0
  simp only [Value.slice.injEq] at he
  obtain ⟨rfl, _, rfl⟩ := he
  refine ⟨a, cap, rfl, fun i u hu => ?_⟩
  obtain ⟨b, off, rfl, hne, hlt, hc⟩ := h i u hu
  obtain ⟨b2, off2, he2, _, hlt2, _⟩ := h0 i u hu
  simp at he2
  obtain ⟨rfl, rfl⟩ := he2
  exact ⟨b, off, rfl, hne, Nat.lt_of_lt_of_le hlt hs, (World.cell?_of_block (a := ⟨b, off + i, none⟩) (hk b hlt2 hne)).trans hc⟩

/-- The reader at work: made in world w0; its words lie beside it. -/
structure RX (w0 w : World) (vs vw : Value) (ws : List (List UInt8)) (taken : Nat) (errno : Int) (rule : Bool) : Prop where
  rd : RD w w0.heap.size vs vw taken errno rule
  bel : Below w0.heap.size w0 w
  reads : RdAt w0.heap.size w vw (ws.map fun l => .string (bs l))
  len : ws.length ≤ 1048577
  short : ∀ l ∈ ws, l.length ≤ 1048577

theorem RX.below {w0 w w' : World} {vs vw : Value} {ws : List (List UInt8)} {taken : Nat} {errno : Int} {rule : Bool} (h : RX w0 w vs vw ws taken errno rule) (hb : Below w.heap.size w w') : RX w0 w' vs vw ws taken errno rule :=
  ⟨h.rd.below hb, h.bel.trans (hb.mono (Nat.le_of_lt h.rd.lt)), h.reads.below hb, h.len, h.short⟩

theorem RX.apart {w0 w : World} {vs vw : Value} {ws : List (List UInt8)} {taken : Nat} {errno : Int} {rule : Bool} (h : RX w0 w vs vw ws taken errno rule) (hlt : taken < ws.length) :
    ∃ b off cap, vw = .slice (some ⟨b, off, none⟩) ws.length cap ∧ ¬ b = w0.heap.size ∧ w.cell? ⟨b, off + taken, none⟩ = some (.string (bs (wordAt ws taken))) := by
  obtain ⟨a, cap, rfl, hc⟩ := h.reads
  obtain ⟨b, off, rfl, hne, hb, hx⟩ := hc taken (.string (bs (wordAt ws taken))) (by simp [wordAt, hlt])
  exact ⟨b, off, cap, by simp, hne, hx⟩

theorem RX.word_len {w0 w : World} {vs vw : Value} {ws : List (List UInt8)} {taken : Nat} {errno : Int} {rule : Bool} (h : RX w0 w vs vw ws taken errno rule) (i : Nat) : (wordAt ws i).length ≤ 1048577 := by
  by_cases hi : i < ws.length
  · have e : wordAt ws i = ws[i] := by simp [wordAt, hi]
    rw [e]; exact h.short _ (List.getElem_mem hi)
  · have e : wordAt ws i = [] := by simp [wordAt, hi]
    rw [e]; simp

/-- The next word. -/
theorem xword (w0 w : World) (vs vw : Value) (ws : List (List UInt8)) (taken : Nat) (errno : Int) (rule : Bool) (h : RX w0 w vs vw ws taken errno rule) (ht : taken ≤ 16777216) :
    Calls Tryz.prog 156 #[.pointer (some ⟨w0.heap.size, 0, none⟩)] w fun e w' => e = .returned (.string (bs (wordAt ws taken))) ∧ RX w0 w' vs vw ws (taken + 1) errno rule ∧ Stp w0.heap.size w w' := by
  have key : Calls Tryz.prog 156 #[.pointer (some ⟨w0.heap.size, 0, none⟩)] w fun e w' => e = .returned (.string (bs (wordAt ws taken))) ∧ ∃ m, w' = (w.setCell ⟨w0.heap.size, 2, none⟩ (.int .i64 ((taken : Int) + 1))).drewN m := by
    by_cases hlt : taken < ws.length
    · obtain ⟨b, off, cap, rfl, hne, hc⟩ := h.apart hlt
      exact pword_in w _ b off _ cap taken _ h.rd.c2 h.rd.c1 h.rd.fz hne hlt h.len hc
    · have e : wordAt ws taken = [] := by simp [wordAt, hlt]
      rw [e]
      obtain ⟨a, cap, hv, _⟩ := h.reads
      rw [List.length_map] at hv
      exact pword_out w _ _ cap taken a h.rd.c2 (hv ▸ h.rd.c1) h.rd.fz (by omega) h.len ht
  refine key.mono ?_
  rintro e w' ⟨rfl, m, rfl⟩
  have hs := Stp.set w0.heap.size w (.int .i64 ((taken : Int) + 1)) m
  exact ⟨rfl, ⟨h.rd.step m, h.bel.trans (hs.below (Nat.le_of_lt h.rd.lt)), h.reads.stp hs, h.len, h.short⟩, hs⟩

/-- What a reader of a number answers: the number, or an error. -/
def NumAns (o : Option Nat) (errno : Int) (e : Ending) (w' : World) : Prop :=
  match o with
  | some c => e = .returned (.tuple #[.int .i64 c, .nilIface])
  | none => ∃ te pe, e = .returned (.tuple #[.int .i64 0, .iface te pe]) ∧ Err w' errno (.iface te pe)

set_option maxRecDepth 10000 in
set_option maxHeartbeats 1000000 in
theorem xcolumn_yes (w0 w : World) (P : World → Prop) (x : List UInt8) (c : Nat) (hx : x.length ≤ 1048577) (hc : colRaw x = some c)
    (hw : Calls Tryz.prog 156 #[.pointer (some ⟨w0.heap.size, 0, none⟩)] w fun e w' => e = .returned (.string (bs x)) ∧ P w') :
    Calls Tryz.prog 210 #[.pointer (some ⟨w0.heap.size, 0, none⟩)] w fun e w' => e = .returned (.tuple #[.int .i64 c, .nilIface]) ∧ P w' := by
  have hr : ∀ w, Calls Tryz.prog 251 #[.string (bs x)] w fun e w' => e = .returned (.tuple #[.int .i64 c, .bool true]) ∧ w' = w := by
    intro w
    have := readColumn_any (bs x) w (by rw [bs_size]; unfold maxLen; omega)
    rw [show (bs x).data.toList = x from rfl, hc] at this
    exact this
  go_enter Tryz.func210, Tryz.ntmps210
  go_wp2_with (first
    | (go_at_call 156; with_reducible refine hw.mono ?_; rintro e w1 ⟨rfl, hP⟩)
    | (go_at_call 251; with_reducible refine (hr _).mono ?_; rintro e w2 ⟨rfl, rfl⟩))
  go_ret2
  exact ⟨rfl, hP⟩

set_option maxRecDepth 10000 in
set_option maxHeartbeats 1000000 in
theorem xcolumn_no (w0 w : World) (P : World → Prop) (x : List UInt8) (hx : x.length ≤ 1048577) (hc : colRaw x = none) (errno : Int)
    (hw : Calls Tryz.prog 156 #[.pointer (some ⟨w0.heap.size, 0, none⟩)] w fun e w' => e = .returned (.string (bs x)) ∧ P w')
    (hwr : ∀ w1 s, P w1 → Calls Tryz.prog 159 #[.pointer (some ⟨w0.heap.size, 0, none⟩), .string s] w1 fun e w' => ∃ te pe, e = .returned (.iface te pe) ∧ Err w' errno (.iface te pe) ∧ P w') :
    Calls Tryz.prog 210 #[.pointer (some ⟨w0.heap.size, 0, none⟩)] w fun e w' => (∃ te pe, e = .returned (.tuple #[.int .i64 0, .iface te pe]) ∧ Err w' errno (.iface te pe)) ∧ P w' := by
  have hr : ∀ w, Calls Tryz.prog 251 #[.string (bs x)] w fun e w' => e = .returned (.tuple #[.int .i64 0, .bool false]) ∧ w' = w := by
    intro w
    have := readColumn_any (bs x) w (by rw [bs_size]; unfold maxLen; omega)
    rw [show (bs x).data.toList = x from rfl, hc] at this
    exact this
  go_enter Tryz.func210, Tryz.ntmps210
  go_wp2_with (first
    | (go_at_call 156; with_reducible refine hw.mono ?_; rintro e w1 ⟨rfl, hP⟩)
    | (go_at_call 251; with_reducible refine (hr _).mono ?_; rintro e w2 ⟨rfl, rfl⟩)
    | (go_at_call 159; with_reducible refine (hwr _ _ hP).mono ?_; rintro e w3 ⟨te, pe, rfl, hE, hP3⟩))
  go_ret2
  exact ⟨⟨_, _, rfl, hE⟩, hP3⟩

/-- COL. -/
theorem xcolumn (w0 w : World) (vs vw : Value) (ws : List (List UInt8)) (taken : Nat) (errno : Int) (rule : Bool) (h : RX w0 w vs vw ws taken errno rule) (ht : taken ≤ 16777216) :
    Calls Tryz.prog 210 #[.pointer (some ⟨w0.heap.size, 0, none⟩)] w fun e w' => NumAns (colRaw (wordAt ws taken)) errno e w' ∧ RX w0 w' vs vw ws (taken + 1) errno rule ∧ Stp w0.heap.size w w' := by
  have hw := xword w0 w vs vw ws taken errno rule h ht
  cases hc : colRaw (wordAt ws taken) with
  | some c => exact xcolumn_yes w0 w _ _ c (h.word_len taken) hc hw
  | none =>
    refine xcolumn_no w0 w _ _ (h.word_len taken) hc errno hw ?_
    rintro w1 s ⟨hX, hS⟩
    refine (pwrong_any w1 w0.heap.size (taken + 1) errno s hX.rd.c2 hX.rd.c3 hX.rd.lt).mono ?_
    rintro e w' ⟨te, pe, rfl, hE, hb⟩
    exact ⟨te, pe, rfl, hE, hX.below hb, hS.trans (Stp.of_below hb)⟩
end Go.Proofs.YtnpjldffciociaaGreatDoor
