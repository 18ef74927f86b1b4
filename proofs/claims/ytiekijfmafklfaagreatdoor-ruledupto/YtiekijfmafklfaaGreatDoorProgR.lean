import Derived.Test.YtiekijfmafklfaaGreatDoorProgQ
namespace Go.Proofs.YtiekijfmafklfaaGreatDoor
open Go.RowKit

theorem RX.other {w0 w w' : World} {vs vw : Value} {ws : List (List UInt8)} {taken k : Nat} {errno : Int} {rule : Bool} (h : RX w0 w vs vw ws taken errno rule) (hg : w.grownBy w' (some k)) (hk : w0.heap.size < k) : RX w0 w' vs vw ws taken errno rule := by
  have hne : some w0.heap.size ≠ some k := by simp; omega
  have hb : w'.heap[w0.heap.size]? = w.heap[w0.heap.size]? := hg.block _ h.rd.lt hne
  refine ⟨⟨(World.cell?_of_block (a := ⟨_, 0, none⟩) hb).trans h.rd.c0, (World.cell?_of_block (a := ⟨_, 1, none⟩) hb).trans h.rd.c1, (World.cell?_of_block (a := ⟨_, 2, none⟩) hb).trans h.rd.c2, (World.cell?_of_block (a := ⟨_, 3, none⟩) hb).trans h.rd.c3,
    (World.cell?_of_block (a := ⟨_, 4, none⟩) hb).trans h.rd.c4, (World.frozen?_of_block (a := ⟨_, 2, none⟩) hb).trans h.rd.fz, Nat.lt_of_lt_of_le h.rd.lt hg.size⟩, ?_, h.reads, h.len, h.short⟩
  exact ⟨hg.os.trans h.bel.os, hg.tape.trans h.bel.tape, hg.output.trans h.bel.output, Nat.le_trans h.bel.size hg.size, fun i hi => (hg.block i (by have := h.bel.size; omega) (by simp; omega)).trans (h.bel.block i hi)⟩
theorem Stp.other {rb k : Nat} {w w2 w' : World} (h : Stp rb w w2) (hg : w2.grownBy w' (some k)) (hk : w.heap.size ≤ k) : Stp rb w w' :=
  ⟨hg.os.trans h.os, hg.tape.trans h.tape, hg.output.trans h.output, Nat.le_trans h.size hg.size, fun i hi hn => (hg.block i (Nat.lt_of_lt_of_le hi h.size) (by simp; omega)).trans (h.block i hi hn)⟩
theorem zeroS {w W : World} {ty : TypeId} {rb : Nat} (hS : Stp rb (w.alloc (.cells #[.int .i64 0, .int .i64 0, .string ⟨#[]⟩] ty)) W) (hrb : rb < w.heap.size) :
    w.heap.size < W.heap.size ∧ W.cell? ⟨w.heap.size, 0, none⟩ = some (.int .i64 0) ∧ W.cell? ⟨w.heap.size, 1, none⟩ = some (.int .i64 0) ∧ W.cell? ⟨w.heap.size, 2, none⟩ = some (.string ⟨#[]⟩) ∧ (∀ i, W.frozen? ⟨w.heap.size, i, none⟩ = false) := by
  have hz : w.heap.size < W.heap.size := by have := hS.size; simp at this; omega
  have hb : W.heap[w.heap.size]? = (w.alloc (.cells #[.int .i64 0, .int .i64 0, .string ⟨#[]⟩] ty)).heap[w.heap.size]? := hS.block _ (by simp) (by simp; omega)
  refine ⟨hz, (World.cell?_of_block (a := ⟨_, 0, none⟩) hb).trans (by simp), (World.cell?_of_block (a := ⟨_, 1, none⟩) hb).trans (by simp), (World.cell?_of_block (a := ⟨_, 2, none⟩) hb).trans (by simp), fun i => (World.frozen?_of_block (a := ⟨_, i, none⟩) hb).trans (by simp)⟩
theorem grown_sets (w : World) (k : Nat) (x y z : Value) : w.grownBy (((w.setCell ⟨k, 0, none⟩ x).setCell ⟨k, 1, none⟩ y).setCell ⟨k, 2, none⟩ z) (some k) := by
  have h : ∀ (w : World) (i : Nat) (u : Value), w.grownBy (w.setCell ⟨k, i, none⟩ u) (some k) := fun w i u => ⟨rfl, rfl, rfl, by simp [World.setCell], fun j _ hj => Below.heap_setCell _ _ _ _ (fun e => hj (by simp [e]))⟩
  have ht : ∀ {a b c : World}, a.grownBy b (some k) → b.grownBy c (some k) → a.grownBy c (some k) := fun h h' => Stp.trans h h'
  exact ht (ht (h _ _ _) (h _ _ _)) (h _ _ _)

set_option maxRecDepth 10000 in
set_option maxHeartbeats 2000000 in
theorem pvom_me (rb : Nat) (w : World) (P : World → Prop) (hrb : rb < w.heap.size)
    (hw : ∀ o, Calls Tryz.prog 57 #[.pointer (some ⟨rb, 0, none⟩)] (w.alloc o) fun e w' => e = .returned (.string (bs wMe)) ∧ Stp rb (w.alloc o) w' ∧ P w') :
    Calls Tryz.prog 132 #[.pointer (some ⟨rb, 0, none⟩)] w fun e w' => e = .returned (.tuple #[.agg #[.int .i64 2, .int .i64 0, .string ⟨#[]⟩], .bool true, .nilIface]) ∧ ∃ w1, P w1 ∧ w1.grownBy w' (some w.heap.size) := by
  have hbs := bs_toList2
  go_enter Tryz.func132, Tryz.ntmps132
  go_wp2_with (go_at_call 57; with_reducible refine (hw _).mono ?_; rintro e W ⟨rfl, hS, hP⟩; obtain ⟨hz, j0, j1, j2, jf⟩ := zeroS hS hrb)
  obtain ⟨e0, e1, e2⟩ := three_set (W := W) (h := w.heap.size) (x := .int .i64 2) (y := .int .i64 0) (z := .string ⟨#[]⟩) j0 j1 j2
  refine bodyPost_ret (v := .tuple #[.agg #[.int .i64 2, .int .i64 0, .string ⟨#[]⟩], .bool true, .nilIface]) (by simp [results, Tryz.results132, go_sem, e0, e1, e2]) rfl ⟨rfl, W, hP, ?_⟩
  exact grown_sets _ _ _ _ _

theorem liftV {W V : World} {b : Nat} {v0 v1 v2 : Value} (hb : Below W.heap.size W V) (hz : b < W.heap.size) (j0 : W.cell? ⟨b, 0, none⟩ = some v0) (j1 : W.cell? ⟨b, 1, none⟩ = some v1) (j2 : W.cell? ⟨b, 2, none⟩ = some v2) (jf : ∀ i, W.frozen? ⟨b, i, none⟩ = false) :
    (∀ x, (V.alloc x).cell? ⟨b, 0, none⟩ = some v0) ∧ (∀ x, (V.alloc x).cell? ⟨b, 1, none⟩ = some v1) ∧ (∀ x, (V.alloc x).cell? ⟨b, 2, none⟩ = some v2) ∧ (∀ x i, (V.alloc x).frozen? ⟨b, i, none⟩ = false) := by
  have hB : ∀ x, Below W.heap.size W (V.alloc x) := fun x => hb.alloc hb.size x
  exact ⟨fun x => ((hB x).cell (p := ⟨b, 0, none⟩) hz).trans j0, fun x => ((hB x).cell (p := ⟨b, 1, none⟩) hz).trans j1, fun x => ((hB x).cell (p := ⟨b, 2, none⟩) hz).trans j2, fun x i => ((hB x).frozen (p := ⟨b, i, none⟩) hz).trans (jf i)⟩

set_option maxRecDepth 10000 in
set_option maxHeartbeats 2000000 in
theorem pvom_val (rb : Nat) (w : World) (P : World → Prop) (Q : Int → Int → ByteArray → Value → World → Prop) (x : List UInt8) (hx : (x == wMe) = false) (hrb : rb < w.heap.size)
    (hw : ∀ o, Calls Tryz.prog 57 #[.pointer (some ⟨rb, 0, none⟩)] (w.alloc o) fun e w' => e = .returned (.string (bs x)) ∧ Stp rb (w.alloc o) w' ∧ P w')
    (hv : ∀ w1, P w1 → Calls Tryz.prog 89 #[.pointer (some ⟨rb, 0, none⟩), .string (bs x)] w1 fun e w' => (∃ t n S ev, e = .returned (.tuple #[.agg #[.int .i64 t, .int .i64 n, .string S], ev]) ∧ Q t n S ev w') ∧ Below w1.heap.size w1 w') :
    Calls Tryz.prog 132 #[.pointer (some ⟨rb, 0, none⟩)] w fun e w' => ∃ t n S ev w2, e = .returned (.tuple #[.agg #[.int .i64 t, .int .i64 n, .string S], .bool false, ev]) ∧ Q t n S ev w2 ∧ w2.grownBy w' (some w.heap.size) ∧
      (t = 0 → n = 0 → S = ⟨#[]⟩ → ∀ p v, w2.cell? p = some v → w'.cell? p = some v) := by
  have hbs := bs_toList2
  go_enter Tryz.func132, Tryz.ntmps132
  go_wp2_with (first
    | (go_at_call 57; with_reducible refine (hw _).mono ?_; rintro e W ⟨rfl, hS, hP⟩; obtain ⟨hz, j0, j1, j2, jf⟩ := zeroS hS hrb)
    | (go_at_call 89; with_reducible refine (hv _ hP).mono ?_; rintro e V ⟨⟨t, n, S, ev, rfl, hQ⟩, hbV⟩; obtain ⟨k0, k1, k2, kf⟩ := liftV hbV hz j0 j1 j2 jf))
  have hbA : Below V.heap.size V (V.alloc (.cells #[.int .i64 t, .int .i64 n, .string S] 163)) := (Below.refl _ _).alloc (Nat.le_refl _) _
  obtain ⟨e0, e1, e2⟩ := three_set (W := V.alloc (.cells #[.int .i64 t, .int .i64 n, .string S] 163)) (h := w.heap.size) (x := .int .i64 t) (y := .int .i64 n) (z := .string S) (k0 _) (k1 _) (k2 _)
  refine bodyPost_ret (v := .tuple #[.agg #[.int .i64 t, .int .i64 n, .string S], .bool false, ev]) (by simp [results, Tryz.results132, go_sem, e0, e1, e2]) rfl ⟨t, n, S, ev, V, rfl, hQ, ?_, ?_⟩
  · exact Stp.trans (Stp.of_below hbA) (grown_sets _ _ _ _ _)
  · rintro rfl rfl rfl p v hp
    have hpb : p.block < V.heap.size := World.block_lt_of_cell? V p hp
    have hp' : (V.alloc (.cells #[.int .i64 0, .int .i64 0, .string ⟨#[]⟩] 163)).cell? p = some v := (hbA.cell (p := p) hpb).trans hp
    have s0 := set_same (k0 (.cells #[.int .i64 0, .int .i64 0, .string ⟨#[]⟩] 163))
    have s1 := set_same (s0 _ _ (k1 _))
    have s2 := set_same (s1 _ _ (s0 _ _ (k2 _)))
    exact s2 _ _ (s1 _ _ (s0 _ _ hp'))
end Go.Proofs.YtiekijfmafklfaaGreatDoor
