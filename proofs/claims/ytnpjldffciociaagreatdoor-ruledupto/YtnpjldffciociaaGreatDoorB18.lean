import Derived.Test.YtnpjldffciociaaGreatDoorB17
import Derived.Deep.RegionWith
namespace Go.Proofs.YtnpjldffciociaaGreatDoor
open Go.RowKit

theorem RX.slice {w0 w : World} {vs vw : Value} {ws : List (List UInt8)} {taken : Nat} {errno : Int} {rule : Bool} (h : RX w0 w vs vw ws taken errno rule) : ∃ a cap, vw = .slice a ws.length cap := by
  obtain ⟨a, cap, rfl, _⟩ := h.reads
  exact ⟨a, cap, by simp⟩

theorem belowN {B : Nat} {a w : World} (h : Below B a w) (m : Nat) : Below B a (w.drewN m) := ⟨h.os, h.tape, h.output, h.size, h.block⟩

set_option maxRecDepth 10000 in
set_option maxHeartbeats 1000000 in
theorem pend_ok (w : World) (rb taken n cap : Nat) (a : Option Addr) (hr1 : w.cell? ⟨rb, 1, none⟩ = some (.slice a n cap)) (hr2 : w.cell? ⟨rb, 2, none⟩ = some (.int .i64 taken)) (ht : n ≤ taken) :
    Calls Tryz.prog 100 #[.pointer (some ⟨rb, 0, none⟩)] w fun e w' => e = .returned .nilIface ∧ Below w.heap.size w w' := by
  have h1 : ¬ ((taken : Int) < (n : Int)) := by omega
  go_enter Tryz.func100, Tryz.ntmps100
  go_wp2
  go_quiet (fail)
  go_wp2
  go_ret
  exact ⟨rfl, belowN (Below.refl _ _) _⟩

set_option maxRecDepth 10000 in
set_option maxHeartbeats 1000000 in
theorem pend_no (w : World) (rb taken n cap : Nat) (a : Option Addr) (errno : Int) (hr1 : w.cell? ⟨rb, 1, none⟩ = some (.slice a n cap)) (hr2 : w.cell? ⟨rb, 2, none⟩ = some (.int .i64 taken)) (hr3 : w.cell? ⟨rb, 3, none⟩ = some (.int .i64 errno)) (ht : taken < n) (hn : n ≤ 1048577) :
    Calls Tryz.prog 100 #[.pointer (some ⟨rb, 0, none⟩)] w fun e w' => (∃ te pe, e = .returned (.iface te pe) ∧ Err w' errno (.iface te pe)) ∧ Below w.heap.size w w' := by
  have h1 : (taken : Int) < (n : Int) := by omega
  go_enter Tryz.func100, Tryz.ntmps100
  go_wp2
  go_quiet (fail)
  go_wp2_with (first
    | (go_at_call 151; with_reducible refine (pplace_any _ rb taken ?hr ?ht).mono ?_; (case hr => simpa using hr2); (case ht => omega); rintro e w' ⟨rfl, rfl⟩)
    | (go_at_call 98; with_reducible refine (pfault_any _ rb errno _ ?hr).mono ?_; (case hr => simpa using hr3); rintro e w' ⟨rfl, rfl⟩))
  go_ret
  exact ⟨⟨_, _, rfl, Err.newWrap _ _ _ _ _⟩, ((belowN (Below.refl _ _) _).alloc (by simp) _).alloc (by simp) _⟩

/-- Whether nothing is left. -/
theorem xend (w0 w : World) (vs vw : Value) (ws : List (List UInt8)) (taken : Nat) (errno : Int) (rule : Bool) (h : RX w0 w vs vw ws taken errno rule) :
    Calls Tryz.prog 100 #[.pointer (some ⟨w0.heap.size, 0, none⟩)] w fun e w' => (if ws.length ≤ taken then e = .returned .nilIface else ∃ te pe, e = .returned (.iface te pe) ∧ Err w' errno (.iface te pe)) ∧ Below w.heap.size w w' := by
  obtain ⟨a, cap, rfl⟩ := h.slice
  by_cases hc : ws.length ≤ taken
  · simp only [hc, if_true]
    exact pend_ok w _ taken _ cap a h.rd.c1 h.rd.c2 hc
  · simp only [hc, if_false]
    exact pend_no w _ taken _ cap a errno h.rd.c1 h.rd.c2 h.rd.c3 (by omega) h.len

set_option maxRecDepth 10000 in
set_option maxHeartbeats 1000000 in
theorem two_first (rb : Nat) (w : World) (Q : Value → World → Prop)
    (h1 : Calls Tryz.prog 210 #[.pointer (some ⟨rb, 0, none⟩)] w fun e w' => ∃ te pe, e = .returned (.tuple #[.int .i64 0, .iface te pe]) ∧ Q (.iface te pe) w') :
    Calls Tryz.prog 246 #[.pointer (some ⟨rb, 0, none⟩)] w fun e w' => ∃ te pe, e = .returned (.tuple #[.int .i64 0, .int .i64 0, .iface te pe]) ∧ Q (.iface te pe) w' := by
  go_enter Tryz.func246, Tryz.ntmps246
  go_wp2_with (go_at_call 210; with_reducible refine h1.mono ?_; rintro e w1 ⟨te, pe, rfl, hQ⟩)
  go_ret3
  exact ⟨_, _, rfl, hQ⟩

set_option maxRecDepth 10000 in
set_option maxHeartbeats 1000000 in
theorem two_second (rb : Nat) (w : World) (c : Nat) (P : World → Prop) (Q : Int → Value → World → Prop)
    (h1 : Calls Tryz.prog 210 #[.pointer (some ⟨rb, 0, none⟩)] w fun e w' => e = .returned (.tuple #[.int .i64 c, .nilIface]) ∧ P w')
    (h2 : ∀ w1, P w1 → Calls Tryz.prog 210 #[.pointer (some ⟨rb, 0, none⟩)] w1 fun e w' => ∃ c2 v, e = .returned (.tuple #[.int .i64 c2, v]) ∧ Q c2 v w') :
    Calls Tryz.prog 246 #[.pointer (some ⟨rb, 0, none⟩)] w fun e w' => ∃ c2 v, e = .returned (.tuple #[.int .i64 c, .int .i64 c2, v]) ∧ Q c2 v w' := by
  go_enter Tryz.func246, Tryz.ntmps246
  go_wp2_with (go_at_call 210; first | (with_reducible refine h1.mono ?_; rintro e w1 ⟨rfl, hP⟩) | (with_reducible refine (h2 _ hP).mono ?_; rintro e w2 ⟨c2, v, rfl, hQ⟩))
  go_ret3
  exact ⟨_, _, rfl, hQ⟩

/-- What a reader of two numbers answers. -/
def TwoAns (o1 o2 : Option Nat) (errno : Int) (e : Ending) (w' : World) : Prop :=
  (∃ c d, o1 = some c ∧ o2 = some d ∧ e = .returned (.tuple #[.int .i64 c, .int .i64 d, .nilIface])) ∨
  ((o1 = none ∨ o2 = none) ∧ ∃ (a b : Int) (te : TypeId) (pe : Value), e = .returned (.tuple #[.int .i64 a, .int .i64 b, .iface te pe]) ∧ Err w' errno (.iface te pe))

/-- COL COL. -/
theorem xtwo (w0 w : World) (vs vw : Value) (ws : List (List UInt8)) (taken : Nat) (errno : Int) (rule : Bool) (h : RX w0 w vs vw ws taken errno rule) (ht : taken ≤ 16777215) :
    Calls Tryz.prog 246 #[.pointer (some ⟨w0.heap.size, 0, none⟩)] w fun e w' => TwoAns (colRaw (wordAt ws taken)) (colRaw (wordAt ws (taken + 1))) errno e w' ∧
      RX w0 w' vs vw ws (if (colRaw (wordAt ws taken)).isSome then taken + 2 else taken + 1) errno rule ∧ Stp w0.heap.size w w' := by
  have h1 := xcolumn w0 w vs vw ws taken errno rule h (by omega)
  cases hc : colRaw (wordAt ws taken) with
  | none =>
    rw [hc] at h1
    refine (two_first _ w (fun v w' => Err w' errno v ∧ RX w0 w' vs vw ws (taken + 1) errno rule ∧ Stp w0.heap.size w w') (h1.mono ?_)).mono ?_
    · rintro e w' ⟨⟨te, pe, rfl, hE⟩, hX, hS⟩
      exact ⟨te, pe, rfl, hE, hX, hS⟩
    · rintro e w' ⟨te, pe, rfl, hE, hX, hS⟩
      exact ⟨.inr ⟨.inl rfl, _, _, te, pe, rfl, hE⟩, by simpa using hX, hS⟩
  | some c =>
    rw [hc] at h1
    refine (two_second _ w c (fun w' => RX w0 w' vs vw ws (taken + 1) errno rule ∧ Stp w0.heap.size w w')
      (fun c2 v w' => NumAns (colRaw (wordAt ws (taken + 1))) errno (.returned (.tuple #[.int .i64 c2, v])) w' ∧ RX w0 w' vs vw ws (taken + 2) errno rule ∧ Stp w0.heap.size w w') h1 ?_).mono ?_
    · rintro w1 ⟨hX, hS⟩
      refine (xcolumn w0 w1 vs vw ws (taken + 1) errno rule hX (by omega)).mono ?_
      rintro e w' ⟨hA, hX', hS'⟩
      cases hd : colRaw (wordAt ws (taken + 1)) with
      | none =>
        rw [hd] at hA
        obtain ⟨te, pe, rfl, hE⟩ := hA
        exact ⟨0, _, rfl, ⟨te, pe, rfl, hE⟩, hX', hS.trans hS'⟩
      | some d =>
        rw [hd] at hA
        obtain rfl := hA
        exact ⟨d, _, rfl, rfl, hX', hS.trans hS'⟩
    · rintro e w' ⟨c2, v, rfl, hA, hX, hS⟩
      refine ⟨?_, by simpa using hX, hS⟩
      cases hd : colRaw (wordAt ws (taken + 1)) with
      | none =>
        rw [hd] at hA
        obtain ⟨te, pe, he, hE⟩ := hA
        injection he with he; injection he with he
        simp at he
        obtain ⟨rfl, rfl⟩ := he
        exact .inr ⟨.inr rfl, _, _, te, pe, rfl, hE⟩
      | some d =>
        rw [hd] at hA
        have he := hA
        unfold NumAns at he
        injection he with he; injection he with he
        simp at he
        obtain ⟨rfl, rfl⟩ := he
        exact .inl ⟨c, d, rfl, rfl, rfl⟩

end Go.Proofs.YtnpjldffciociaaGreatDoor
namespace Go.Proofs.YtnpjldffciociaaGreatDoor
open Go.RowKit

theorem zeroes {w W : World} {ty : TypeId} (hb : Below (w.alloc (.cells #[.int .i64 0, .int .i64 0, .string ⟨#[]⟩] ty)).heap.size (w.alloc (.cells #[.int .i64 0, .int .i64 0, .string ⟨#[]⟩] ty)) W) :
    w.heap.size < W.heap.size ∧ (∀ x, (W.alloc x).cell? ⟨w.heap.size, 0, none⟩ = some (.int .i64 0)) ∧ (∀ x, (W.alloc x).cell? ⟨w.heap.size, 1, none⟩ = some (.int .i64 0)) ∧ (∀ x, (W.alloc x).cell? ⟨w.heap.size, 2, none⟩ = some (.string ⟨#[]⟩)) ∧
      (∀ x i, (W.alloc x).frozen? ⟨w.heap.size, i, none⟩ = false) := by
  have hz : w.heap.size < W.heap.size := by have := hb.size; simp at this; omega
  have hc : ∀ x i, (W.alloc x).cell? ⟨w.heap.size, i, none⟩ = (w.alloc (.cells #[.int .i64 0, .int .i64 0, .string ⟨#[]⟩] ty)).cell? ⟨w.heap.size, i, none⟩ := fun x i =>
    (((Below.refl W.heap.size W).alloc (Nat.le_refl _) x).cell (p := ⟨w.heap.size, i, none⟩) hz).trans (hb.cell (p := ⟨w.heap.size, i, none⟩) (by simp))
  have hf : ∀ x i, (W.alloc x).frozen? ⟨w.heap.size, i, none⟩ = (w.alloc (.cells #[.int .i64 0, .int .i64 0, .string ⟨#[]⟩] ty)).frozen? ⟨w.heap.size, i, none⟩ := fun x i =>
    (((Below.refl W.heap.size W).alloc (Nat.le_refl _) x).frozen (p := ⟨w.heap.size, i, none⟩) hz).trans (hb.frozen (p := ⟨w.heap.size, i, none⟩) (by simp))
  exact ⟨hz, fun x => (hc x 0).trans (by simp), fun x => (hc x 1).trans (by simp), fun x => (hc x 2).trans (by simp), fun x i => (hf x i).trans (by simp)⟩

theorem zeroes' {w W : World} {ty : TypeId} (hb : Below (w.alloc (.cells #[.int .i64 0, .int .i64 0, .string ⟨#[]⟩] ty)).heap.size (w.alloc (.cells #[.int .i64 0, .int .i64 0, .string ⟨#[]⟩] ty)) W) :
    W.cell? ⟨w.heap.size, 0, none⟩ = some (.int .i64 0) ∧ W.cell? ⟨w.heap.size, 1, none⟩ = some (.int .i64 0) ∧ W.cell? ⟨w.heap.size, 2, none⟩ = some (.string ⟨#[]⟩) ∧
      (∀ i, W.frozen? ⟨w.heap.size, i, none⟩ = false) := by
  have hc : ∀ i, W.cell? ⟨w.heap.size, i, none⟩ = (w.alloc (.cells #[.int .i64 0, .int .i64 0, .string ⟨#[]⟩] ty)).cell? ⟨w.heap.size, i, none⟩ := fun i => hb.cell (p := ⟨w.heap.size, i, none⟩) (by simp)
  have hf : ∀ i, W.frozen? ⟨w.heap.size, i, none⟩ = (w.alloc (.cells #[.int .i64 0, .int .i64 0, .string ⟨#[]⟩] ty)).frozen? ⟨w.heap.size, i, none⟩ := fun i => hb.frozen (p := ⟨w.heap.size, i, none⟩) (by simp)
  exact ⟨(hc 0).trans (by simp), (hc 1).trans (by simp), (hc 2).trans (by simp), fun i => (hf i).trans (by simp)⟩

theorem lift_alloc {V : World} {b i : Nat} {u : Value} (x : Obj) (h : b < V.heap.size) (hc : V.cell? ⟨b, i, none⟩ = some u) : (V.alloc x).cell? ⟨b, i, none⟩ = some u :=
  (((Below.refl V.heap.size V).alloc (Nat.le_refl _) x).cell (p := ⟨b, i, none⟩) h).trans hc

theorem Err.same {W V : World} {n : Int} {e : Value} (h : Err W n e) (hs : W.heap.size ≤ V.heap.size) (hc : ∀ p v, W.cell? p = some v → V.cell? p = some v) : Err V n e := by
  obtain ⟨b, d, h⟩ := h
  refine ⟨b, d, ?_⟩
  induction h using Chain.ind with
  | fault hl h => exact .fault (Nat.lt_of_lt_of_le hl hs) (hc _ _ h)
  | place d b2 e hl h _ ih => exact .place d b2 e (Nat.lt_of_lt_of_le hl hs) (hc _ _ h) ih

theorem set_same {W : World} {a : Addr} {v : Value} (h : W.cell? a = some v) (p : Addr) (u : Value) (hp : W.cell? p = some u) : (W.setCell a v).cell? p = some u := by
  by_cases e : p = a
  · subst e
    rw [h] at hp
    cases hp
    exact World.cell?_setCell_same _ _ _ h
  · rw [World.cell?_setCell_other]
    · exact hp
    · exact fun h => e h.symm

theorem Err.set3 {W : World} {n : Int} {e : Value} (h : Err W n e) {b : Nat} {v0 v1 v2 : Value} (h0 : W.cell? ⟨b, 0, none⟩ = some v0) (h1 : W.cell? ⟨b, 1, none⟩ = some v1) (h2 : W.cell? ⟨b, 2, none⟩ = some v2) :
    Err (((W.setCell ⟨b, 0, none⟩ v0).setCell ⟨b, 1, none⟩ v1).setCell ⟨b, 2, none⟩ v2) n e := by
  have s0 := set_same h0
  have s1 := set_same (s0 _ _ h1)
  have s2 := set_same (s1 _ _ (s0 _ _ h2))
  exact h.same (by simp) fun p v hp => s2 _ _ (s1 _ _ (s0 _ _ hp))

theorem keep23 {w W : World} {o : Obj} {rb taken : Nat} {errno : Int} (hb : Below (w.alloc o).heap.size (w.alloc o) W) (hlt : rb < w.heap.size) (hr2 : w.cell? ⟨rb, 2, none⟩ = some (.int .i64 taken)) (hr3 : w.cell? ⟨rb, 3, none⟩ = some (.int .i64 errno)) :
    Below w.heap.size w W ∧ (∀ x, (W.alloc x).cell? ⟨rb, 2, none⟩ = some (.int .i64 taken)) ∧ (∀ x, (W.alloc x).cell? ⟨rb, 3, none⟩ = some (.int .i64 errno)) := by
  have hB : Below w.heap.size w W := ((Below.refl _ _).alloc (Nat.le_refl _) _).trans (hb.mono (by simp))
  have hz := hB.size
  exact ⟨hB, fun x => lift_alloc x (by omega) ((hB.cell (p := ⟨rb, 2, none⟩) hlt).trans hr2), fun x => lift_alloc x (by omega) ((hB.cell (p := ⟨rb, 3, none⟩) hlt).trans hr3)⟩

theorem zeroes'' {W V : World} {b : Nat} {x : Obj} {v0 v1 v2 : Value} (hz : b < W.heap.size) (j0 : W.cell? ⟨b, 0, none⟩ = some v0) (j1 : W.cell? ⟨b, 1, none⟩ = some v1) (j2 : W.cell? ⟨b, 2, none⟩ = some v2) (jf : ∀ i, W.frozen? ⟨b, i, none⟩ = false)
    (hb : Below (W.alloc x).heap.size (W.alloc x) V) : V.cell? ⟨b, 0, none⟩ = some v0 ∧ V.cell? ⟨b, 1, none⟩ = some v1 ∧ V.cell? ⟨b, 2, none⟩ = some v2 ∧ (∀ i, V.frozen? ⟨b, i, none⟩ = false) := by
  have hB : Below W.heap.size W V := ((Below.refl _ _).alloc (Nat.le_refl _) _).trans (hb.mono (by simp))
  exact ⟨(hB.cell (p := ⟨b, 0, none⟩) hz).trans j0, (hB.cell (p := ⟨b, 1, none⟩) hz).trans j1, (hB.cell (p := ⟨b, 2, none⟩) hz).trans j2, fun i => (hB.frozen (p := ⟨b, i, none⟩) hz).trans (jf i)⟩

set_option maxRecDepth 10000 in
set_option maxHeartbeats 2000000 in
theorem pvalue_yes (rb : Nat) (w : World) (s : ByteArray) (Z : Int → Int → ByteArray → Prop)
    (hv : ∀ o, Calls Tryz.prog 252 #[.string s] (w.alloc o) fun e w' => (∃ t n S, e = .returned (.tuple #[.agg #[.int .i64 t, .int .i64 n, .string S], .bool true]) ∧ Z t n S) ∧ Below (w.alloc o).heap.size (w.alloc o) w') :
    Calls Tryz.prog 211 #[.pointer (some ⟨rb, 0, none⟩), .string s] w fun e w' => (∃ t n S, e = .returned (.tuple #[.agg #[.int .i64 t, .int .i64 n, .string S], .nilIface]) ∧ Z t n S) ∧ Below w.heap.size w w' := by
  go_enter Tryz.func211, Tryz.ntmps211
  go_wp2_with (go_at_call 252; with_reducible refine (hv _).mono ?_; rintro e W ⟨⟨t, n, S, rfl, hZ⟩, hbW⟩; obtain ⟨hz, k0, k1, k2, kf⟩ := zeroes hbW; obtain ⟨j0, j1, j2, jf⟩ := zeroes' hbW)
  obtain ⟨e0, e1, e2⟩ := three_set (W := W) (h := w.heap.size) (x := .int .i64 t) (y := .int .i64 n) (z := .string S) j0 j1 j2
  have l0 := lift_alloc (.cells #[.int .i64 t, .int .i64 n, .string S] 335) (by simpa using hz) e0
  have l1 := lift_alloc (.cells #[.int .i64 t, .int .i64 n, .string S] 335) (by simpa using hz) e1
  have l2 := lift_alloc (.cells #[.int .i64 t, .int .i64 n, .string S] 335) (by simpa using hz) e2
  refine bodyPost_ret (v := .tuple #[.agg #[.int .i64 t, .int .i64 n, .string S], .nilIface]) (by simp [results, Tryz.results211, go_sem, l0, l1, l2]) rfl ⟨⟨_, _, _, rfl, hZ⟩, ?_⟩
  exact ((((((Below.refl _ _).alloc (Nat.le_refl _) _).trans (hbW.mono (by simp))).setCell (Nat.le_refl _) _).setCell (Nat.le_refl _) _).setCell (Nat.le_refl _) _).alloc (by simp; omega) _

set_option maxRecDepth 10000 in
set_option maxHeartbeats 2000000 in
theorem pvalue_no (rb : Nat) (w : World) (s : ByteArray) (errno : Int) (hlt : rb < w.heap.size) (taken : Nat) (hr2 : w.cell? ⟨rb, 2, none⟩ = some (.int .i64 taken)) (hr3 : w.cell? ⟨rb, 3, none⟩ = some (.int .i64 errno))
    (hv : ∀ o, Calls Tryz.prog 252 #[.string s] (w.alloc o) fun e w' => (∃ t n S, e = .returned (.tuple #[.agg #[.int .i64 t, .int .i64 n, .string S], .bool false])) ∧ Below (w.alloc o).heap.size (w.alloc o) w') :
    Calls Tryz.prog 211 #[.pointer (some ⟨rb, 0, none⟩), .string s] w fun e w' => (∃ te pe, e = .returned (.tuple #[.agg #[.int .i64 0, .int .i64 0, .string ⟨#[]⟩], .iface te pe]) ∧ Err w' errno (.iface te pe)) ∧ Below w.heap.size w w' := by
  go_enter Tryz.func211, Tryz.ntmps211
  go_wp2_with (first
    | (go_at_call 252; with_reducible refine (hv _).mono ?_; rintro e W ⟨⟨t, n, S, rfl⟩, hbW⟩; obtain ⟨hz, k0, k1, k2, kf⟩ := zeroes hbW; obtain ⟨j0, j1, j2, jf⟩ := zeroes' hbW; obtain ⟨hbV, q2, q3⟩ := keep23 hbW hlt hr2 hr3)
    | (go_at_call 159; with_reducible refine (pwrong_any _ rb taken errno _ (q2 _) (q3 _) ?hl).mono ?_; (case hl => simp; omega); rintro e V ⟨te, pe, rfl, hE, hbU⟩; obtain ⟨g0, g1, g2, gf⟩ := zeroes'' hz j0 j1 j2 jf hbU))
  obtain ⟨e0, e1, e2⟩ := three_set (W := V) (h := w.heap.size) (x := .int .i64 0) (y := .int .i64 0) (z := .string ⟨#[]⟩) g0 g1 g2
  refine bodyPost_ret (v := .tuple #[.agg #[.int .i64 0, .int .i64 0, .string ⟨#[]⟩], .iface te pe]) (by simp [results, Tryz.results211, go_sem, e0, e1, e2]) rfl ⟨⟨_, _, rfl, hE.set3 g0 g1 g2⟩, ?_⟩
  exact ((((hbV.alloc hbV.size _).trans (hbU.mono (by have := hbV.size; simp; omega))).setCell (Nat.le_refl _) _).setCell (Nat.le_refl _) _).setCell (Nat.le_refl _) _

/-- A value, as the reader takes it. -/
def RValAns (k : Option Bool) (errno : Int) (e : Ending) (w' : World) : Prop :=
  match k with
  | some b => ∃ n S, e = .returned (.tuple #[.agg #[.int .i64 (tnum b), .int .i64 n, .string S], .nilIface])
  | none => ∃ te pe, e = .returned (.tuple #[.agg #[.int .i64 0, .int .i64 0, .string ⟨#[]⟩], .iface te pe]) ∧ Err w' errno (.iface te pe)

theorem xvalue (w0 w : World) (vs vw : Value) (ws : List (List UInt8)) (taken : Nat) (errno : Int) (rule : Bool) (h : RX w0 w vs vw ws taken errno rule) (x : List UInt8) (hx : x.length ≤ 1048577) (hg : Glob w) :
    Calls Tryz.prog 211 #[.pointer (some ⟨w0.heap.size, 0, none⟩), .string (bs x)] w fun e w' => RValAns (valKind x) errno e w' ∧ Below w.heap.size w w' := by
  have hv := fun o => pReadValue_any (bs x) (w.alloc o) (by simpa using hx) (hg.kept ((Below.refl _ _).alloc (Nat.le_refl _) o))
  rw [show (bs x).data.toList = x from rfl] at hv
  cases hk : valKind x with
  | some b =>
    rw [hk] at hv
    refine (pvalue_yes w0.heap.size w (bs x) (fun t _ _ => t = tnum b) fun o => (hv o).mono ?_).mono ?_
    · rintro e w' ⟨⟨t, n, S, rfl, ht⟩, hb⟩
      exact ⟨⟨t, n, S, rfl, ht b rfl⟩, hb⟩
    · rintro e w' ⟨⟨t, n, S, rfl, rfl⟩, hb⟩
      exact ⟨⟨n, S, rfl⟩, hb⟩
  | none =>
    rw [hk] at hv
    refine (pvalue_no w0.heap.size w (bs x) errno h.rd.lt taken h.rd.c2 h.rd.c3 fun o => (hv o).mono ?_).mono ?_
    · rintro e w' ⟨⟨t, n, S, rfl, _⟩, hb⟩
      exact ⟨⟨t, n, S, rfl⟩, hb⟩
    · rintro e w' ⟨⟨te, pe, rfl, hE⟩, hb⟩
      exact ⟨⟨te, pe, rfl, hE⟩, hb⟩
end Go.Proofs.YtnpjldffciociaaGreatDoor
