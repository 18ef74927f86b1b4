import Derived.Test.YtiekijfmafklfaaGreatDoorProgX
namespace Go.Proofs.YtiekijfmafklfaaGreatDoor
open Go.RowKit

theorem RX.keep {w0 w w' : World} {vs vw : Value} {ws : List (List UInt8)} {taken : Nat} {errno : Int} {rule : Bool} (h : RX w0 w vs vw ws taken errno rule) (hs : w.heap.size ≤ w'.heap.size) (ho : w'.os = w.os) (ht : w'.tape = w.tape) (hu : w'.output = w.output)
    (hk : ∀ k, k ≤ w0.heap.size → w'.heap[k]? = w.heap[k]?) : RX w0 w' vs vw ws taken errno rule := by
  have hb := hk w0.heap.size (Nat.le_refl _)
  refine ⟨⟨(World.cell?_of_block (a := ⟨_, 0, none⟩) hb).trans h.rd.c0, (World.cell?_of_block (a := ⟨_, 1, none⟩) hb).trans h.rd.c1, (World.cell?_of_block (a := ⟨_, 2, none⟩) hb).trans h.rd.c2, (World.cell?_of_block (a := ⟨_, 3, none⟩) hb).trans h.rd.c3,
    (World.cell?_of_block (a := ⟨_, 4, none⟩) hb).trans h.rd.c4, (World.frozen?_of_block (a := ⟨_, 2, none⟩) hb).trans h.rd.fz, Nat.lt_of_lt_of_le h.rd.lt hs⟩, ?_, h.reads, h.len, h.short⟩
  exact ⟨ho.trans h.bel.os, ht.trans h.bel.tape, hu.trans h.bel.output, Nat.le_trans h.bel.size hs, fun i hi => (hk i (by omega)).trans (h.bel.block i hi)⟩
theorem CAns.trans {w0 w w1 : World} {vs vw : Value} {ws : List (List UInt8)} {errno : Int} {rule : Bool} {o : Option (Cnd × Nat)} {e : Ending} {w' : World} (h : CAns w0 w1 vs vw ws errno rule o e w') (hS : Stp w0.heap.size w w1) : CAns w0 w vs vw ws errno rule o e w' := by
  obtain ⟨h1, h2⟩ := h
  refine ⟨?_, hS.trans h2⟩
  match o, h1 with
  | some (c, j), ⟨b, he, hc, hX⟩ => exact ⟨b, he, hc.mono (Nat.le_refl _) hS.size, hX⟩
  | none, h1 => exact h1
theorem CAns.form {w0 w : World} {vs vw : Value} {ws : List (List UInt8)} {errno : Int} {rule : Bool} {o : Option (Cnd × Nat)} {e : Ending} {w' : World} (h : CAns w0 w vs vw ws errno rule o e w') :
    ∃ a b, e = .returned (.tuple #[a, b]) ∧ CAns w0 w vs vw ws errno rule o (.returned (.tuple #[a, b])) w' := by
  obtain ⟨h1, h2⟩ := h
  match o, h1 with
  | some (c, j), ⟨b, he, hc, hX⟩ => subst he; exact ⟨_, _, rfl, ⟨b, rfl, hc, hX⟩, h2⟩
  | none, ⟨te, pe, he, hE⟩ => subst he; exact ⟨_, _, rfl, ⟨te, pe, rfl, hE⟩, h2⟩

/-- A condition, of the test. -/
theorem xcond_of (w0 w : World) (vs vw : Value) (ws : List (List UInt8)) (taken : Nat) (errno : Int) (rule : Bool) (h : RX w0 w vs vw ws taken errno rule) (ht : taken ≤ 16777216) (o : Option (Cnd × Nat))
    (hT : Calls Tryz.prog 114 #[.pointer (some ⟨w0.heap.size, 0, none⟩)] w fun e w' => CAns w0 w vs vw ws errno rule o e w') :
    Calls Tryz.prog 99 #[.pointer (some ⟨w0.heap.size, 0, none⟩)] w fun e w' => CAns w0 w vs vw ws errno rule o e w' := by
  have hp := pplace_any w w0.heap.size taken h.rd.c2 ht
  match o, hT with
  | none, hT =>
    refine (pcond_no _ taken w errno (fun w' => Stp w0.heap.size w w') hp (hT.mono ?_)).mono ?_
    · rintro e w' ⟨⟨te, pe, he, hE⟩, hS⟩
      exact ⟨te, pe, he, hE, hS⟩
    · rintro e w' ⟨te, pe, w1, rfl, hE, hS, hb⟩
      exact ⟨⟨te, pe, rfl, hE⟩, hS.trans (Stp.of_below hb)⟩
  | some (c, j), hT =>
    refine (pcond_yes _ taken w (fun b w' => CndAt w'.heap.size w' c w.heap.size b ∧ RX w0 w' vs vw ws j errno rule ∧ Stp w0.heap.size w w') hp (hT.mono ?_)).mono ?_
    · rintro e w' ⟨⟨b, he, hC, hX⟩, hS⟩
      obtain ⟨_, _, r, hr⟩ := hC.blk
      exact ⟨b, r, he, hr, hC, hX, hS⟩
    · rintro e w' ⟨b, w1, rfl, ⟨hC, hX, hS⟩, rfl⟩
      have hlo := hC.blk.1
      have hgr : w1.grownBy (w1.setCell ⟨b, 11, none⟩ (.int .i64 ((taken : Int) + 1))) (some b) := ⟨rfl, rfl, rfl, by simp [World.setCell], fun k _ hk => Below.heap_setCell _ _ _ _ (fun e => hk (by simp [e]))⟩
      refine ⟨⟨b, rfl, ?_, hX.other hgr (Nat.lt_of_lt_of_le h.rd.lt hlo)⟩, hS.other hgr hlo⟩
      have := hC.place ((taken : Int) + 1)
      simpa [World.setCell] using this

/-- not, of the part. -/
theorem comb1_at {w0 w w1 wB : World} {vs vw : Value} {ws : List (List UInt8)} {errno : Int} {rule : Bool} {c : Cnd} {j b1 : Nat} {pv : Value} (hr : w0.heap.size < w.heap.size)
    (hC : CndAt w1.heap.size w1 c (w.heap.size + 1) b1) (hX : RX w0 w1 vs vw ws j errno rule) (hS : Stp w0.heap.size (w.alloc (.cells (combRaw 4 (.slice none 0 0)).row 200)) w1)
    (hM : Mid w.heap.size 4 (.slice none 0 0) pv [.pointer (some ⟨b1, 0, none⟩)] w1 wB) :
    CAns w0 w vs vw ws errno rule (some (.neg c, j)) (.returned (.tuple #[.pointer (some ⟨w.heap.size, 0, none⟩), .nilIface])) wB := by
  have hsz : w.heap.size < w1.heap.size := by have := hS.size; simp at this; omega
  obtain ⟨pa, pc, rfl, hpa⟩ := row_slice hM.row
  obtain ⟨g, rfl⟩ := hpa (by simp)
  obtain ⟨hg1, hg2⟩ := hM.row.lt g rfl
  have hcell := hM.row.cells (g := g) rfl 0 _ rfl
  have hcell' : wB.cell? ⟨g, 0, none⟩ = some (.pointer (some ⟨b1, 0, none⟩)) := by simpa [Addr.add] using hcell
  refine ⟨⟨_, rfl, ⟨Nat.le_refl _, by have := hM.size; omega, _, g, pc, b1, hM.blk, rfl, rfl, by omega, hg2, hcell', ?_⟩, ?_⟩, ?_⟩
  · exact (hC.keep fun k hk1 hk2 => hM.keep k hk2 (by omega) (by simp [Value.ownBlock])).mono hM.size (Nat.le_refl _)
  · exact hX.keep hM.size hM.os hM.tape hM.output fun k hk => hM.keep k (by omega) (by omega) (by simp [Value.ownBlock])
  · have hS0 : Stp w0.heap.size w w1 := (Stp.of_below ((Below.refl _ _).alloc (Nat.le_refl _) _)).trans hS
    exact ⟨hM.os.trans hS0.os, hM.tape.trans hS0.tape, hM.output.trans hS0.output, Nat.le_trans hS0.size hM.size, fun k hk hne => (hM.keep k (by omega) (by omega) (by simp [Value.ownBlock])).trans (hS0.block k hk hne)⟩

/-- and, or, of the two parts. -/
theorem comb2_at {w0 w w1 wB w4 wC : World} {vs vw : Value} {ws : List (List UInt8)} {errno : Int} {rule : Bool} {c d : Cnd} {j b1 b2 : Nat} {pv pv2 : Value} {test : Int} (ht : test = 5 ∨ test = 6) (hr : w0.heap.size < w.heap.size)
    (hC : CndAt w1.heap.size w1 c (w.heap.size + 1) b1) (hS : Stp w0.heap.size (w.alloc (.cells (combRaw test (.slice none 0 0)).row 200)) w1)
    (hM : Mid w.heap.size test (.slice none 0 0) pv [.pointer (some ⟨b1, 0, none⟩)] w1 wB) (hD : CndAt w4.heap.size w4 d wB.heap.size b2) (hX : RX w0 w4 vs vw ws j errno rule) (hS4 : Stp w0.heap.size wB w4)
    (hM2 : Mid w.heap.size test pv pv2 [.pointer (some ⟨b1, 0, none⟩), .pointer (some ⟨b2, 0, none⟩)] w4 wC) :
    CAns w0 w vs vw ws errno rule (some (.two c d, j)) (.returned (.tuple #[.pointer (some ⟨w.heap.size, 0, none⟩), .nilIface])) wC := by
  have hsz : w.heap.size < w1.heap.size := by have := hS.size; simp at this; omega
  have hs1 := hM.size
  have hs2 := hS4.size
  have hs3 := hM2.size
  obtain ⟨pa, pc, rfl, hpa⟩ := row_slice hM.row
  obtain ⟨g, rfl⟩ := hpa (by simp)
  obtain ⟨hg1, hg2⟩ := hM.row.lt g rfl
  have hgn : w1.heap.size ≤ g := by
    rcases hM.new g rfl with h | h
    · simp [Value.ownBlock] at h
    · exact h
  obtain ⟨pa2, pc2, rfl, hpa2⟩ := row_slice hM2.row
  obtain ⟨g2, rfl⟩ := hpa2 (by simp)
  obtain ⟨hg3, hg4⟩ := hM2.row.lt g2 rfl
  have c0 := hM2.row.cells (g := g2) rfl 0 _ rfl
  have c1 := hM2.row.cells (g := g2) rfl 1 _ rfl
  have c0' : wC.cell? ⟨g2, 0, none⟩ = some (.pointer (some ⟨b1, 0, none⟩)) := by simpa [Addr.add] using c0
  have c1' : wC.cell? ⟨g2, 1, none⟩ = some (.pointer (some ⟨b2, 0, none⟩)) := by simpa [Addr.add] using c1
  have hkeep2 : ∀ k, k < w4.heap.size → k ≠ w.heap.size → k ≠ g → wC.heap[k]? = w4.heap[k]? := fun k hk h1 h2 => hM2.keep k hk h1 (by simp [Value.ownBlock]; exact h2)
  have hkeep1 : ∀ k, k < w1.heap.size → k ≠ w.heap.size → k ≠ w0.heap.size → wC.heap[k]? = w1.heap[k]? := fun k hk h1 h2 =>
    ((hkeep2 k (by omega) h1 (by omega)).trans (hS4.block k (by omega) (by simp; exact h2))).trans (hM.keep k hk h1 (by simp [Value.ownBlock]))
  refine ⟨⟨_, rfl, ⟨Nat.le_refl _, by omega, _, g2, pc2, b1, b2, hM2.blk, ht, rfl, by omega, hg4, c0', c1', ?_, ?_⟩, ?_⟩, ?_⟩
  · exact (hC.keep fun k hk1 hk2 => hkeep1 k hk2 (by omega) (by omega)).mono (by omega) (Nat.le_refl _)
  · exact (hD.keep fun k hk1 hk2 => hkeep2 k hk2 (by omega) (by omega)).mono hs3 (by omega)
  · exact hX.keep hs3 hM2.os hM2.tape hM2.output fun k hk => hkeep2 k (by omega) (by omega) (by omega)
  · have hS0 : Stp w0.heap.size w w1 := (Stp.of_below ((Below.refl _ _).alloc (Nat.le_refl _) _)).trans hS
    exact ⟨(hM2.os.trans hS4.os).trans (hM.os.trans hS0.os), (hM2.tape.trans hS4.tape).trans (hM.tape.trans hS0.tape), (hM2.output.trans hS4.output).trans (hM.output.trans hS0.output), by have := hS0.size; omega,
      fun k hk hne => (hkeep1 k (by omega) (by omega) (by simpa using hne)).trans (hS0.block k hk hne)⟩
end Go.Proofs.YtiekijfmafklfaaGreatDoor
