import Derived.Test.YtnpjldffciociaaGreatDoorB24
namespace Go.Proofs.YtnpjldffciociaaGreatDoor
open Go.RowKit

theorem RX.keep {w0 w w' : World} {vs vw : Value} {ws : List (List UInt8)} {taken t0 : Nat} {errno : Int} {rule : Bool} {wk : World} (h : RX w0 w vs vw ws taken errno rule) (h0 : RX w0 wk vs vw ws t0 errno rule) (hs : w.heap.size ≤ w'.heap.size) (ho : w'.os = w.os) (ht : w'.tape = w.tape) (hu : w'.output = w.output)
    (hk : ∀ k, k < wk.heap.size → w'.heap[k]? = w.heap[k]?) : RX w0 w' vs vw ws taken errno rule := by
  have hlt0 := h0.rd.lt
  have hb := hk w0.heap.size hlt0
  refine ⟨⟨(World.cell?_of_block (a := ⟨_, 0, none⟩) hb).trans h.rd.c0, (World.cell?_of_block (a := ⟨_, 1, none⟩) hb).trans h.rd.c1, (World.cell?_of_block (a := ⟨_, 2, none⟩) hb).trans h.rd.c2, (World.cell?_of_block (a := ⟨_, 3, none⟩) hb).trans h.rd.c3,
    (World.cell?_of_block (a := ⟨_, 4, none⟩) hb).trans h.rd.c4, (World.frozen?_of_block (a := ⟨_, 2, none⟩) hb).trans h.rd.fz, Nat.lt_of_lt_of_le h.rd.lt hs⟩, ?_, h.reads.keepAt h0.reads hs (fun q hq _ => hk q hq), h.len, h.short⟩
  exact ⟨ho.trans h.bel.os, ht.trans h.bel.tape, hu.trans h.bel.output, Nat.le_trans h.bel.size hs, fun i hi => (hk i (by omega)).trans (h.bel.block i hi)⟩
theorem CAns.trans {w0 w w1 : World} {vs vw : Value} {ws : List (List UInt8)} {errno : Int} {rule : Bool} {o : Option (Cnd × Nat)} {e : Ending} {w' : World} (h : CAns w0 w1 vs vw ws errno rule o e w') (hS : Stp w0.heap.size w w1) : CAns w0 w vs vw ws errno rule o e w' := by
  obtain ⟨h1, h2⟩ := h
  refine ⟨?_, hS.trans h2⟩
  match o, h1 with
  | some (c, j), ⟨b, he, hc, hX⟩ => exact ⟨b, he, hc.mono (Nat.le_refl _) hS.size, hX⟩
  | none, h1 => exact h1
theorem CAns.form {w0 w : World} {vs vw : Value} {ws : List (List UInt8)} {errno : Int} {rule : Bool} {o : Option (Cnd × Nat)} {e : Ending} {w' : World} (h : CAns w0 w vs vw ws errno rule o e w') :
    ∃ a b, e = .returned (.tuple #[a, b]) ∧ CAns w0 w vs vw ws errno rule o (.returned (.tuple #[a, b])) w' := by
  obtain ⟨h1, h2⟩ := h
  match o, h1 with
  | some (c, j), ⟨b, he, hc, hX⟩ => subst he; exact ⟨_, _, rfl, ⟨b, rfl, hc, hX⟩, h2⟩
  | none, ⟨te, pe, he, hE⟩ => subst he; exact ⟨_, _, rfl, ⟨te, pe, rfl, hE⟩, h2⟩

/-- A condition, of the test. -/
theorem xcond_of (w0 w : World) (vs vw : Value) (ws : List (List UInt8)) (taken : Nat) (errno : Int) (rule : Bool) (h : RX w0 w vs vw ws taken errno rule) (ht : taken ≤ 16777216) (o : Option (Cnd × Nat))
    (hT : Calls Tryz.prog 286 #[.pointer (some ⟨w0.heap.size, 0, none⟩)] w fun e w' => CAns w0 w vs vw ws errno rule o e w') :
    Calls Tryz.prog 243 #[.pointer (some ⟨w0.heap.size, 0, none⟩)] w fun e w' => CAns w0 w vs vw ws errno rule o e w' := by
  have hp := pplace_any w w0.heap.size taken h.rd.c2 ht
  match o, hT with
  | none, hT =>
    refine (pcond_no _ taken w errno (fun w' => Stp w0.heap.size w w') hp (hT.mono ?_)).mono ?_
    · rintro e w' ⟨⟨te, pe, he, hE⟩, hS⟩
      exact ⟨te, pe, he, hE, hS⟩
    · rintro e w' ⟨te, pe, w1, rfl, hE, hS, hb⟩
      exact ⟨⟨te, pe, rfl, hE⟩, hS.trans (Stp.of_below hb)⟩
  | some (c, j), hT =>
    refine (pcond_yes _ taken w (fun b w' => CndAt w'.heap.size w' c w.heap.size b ∧ RX w0 w' vs vw ws j errno rule ∧ Stp w0.heap.size w w') hp (hT.mono ?_)).mono ?_
    · rintro e w' ⟨⟨b, he, hC, hX⟩, hS⟩
      obtain ⟨_, _, r, hr⟩ := hC.blk
      exact ⟨b, r, he, hr, hC, hX, hS⟩
    · rintro e w' ⟨b, w1, rfl, ⟨hC, hX, hS⟩, rfl⟩
      have hlo := hC.blk.1
      have hgr : w1.grownBy (w1.setCell ⟨b, 11, none⟩ (.int .i64 ((taken : Int) + 1))) (some b) := ⟨rfl, rfl, rfl, by simp [World.setCell], fun k _ hk => Below.heap_setCell _ _ _ _ (fun e => hk (by simp [e]))⟩
      refine ⟨⟨b, rfl, ?_, hX.other hgr h hlo hS.size⟩, hS.other hgr hlo⟩
      have := hC.place ((taken : Int) + 1)
      simpa [World.setCell] using this

/-- not, of the part. -/
theorem comb1_at {w0 w w1 wB : World} {vs vw : Value} {ws : List (List UInt8)} {errno : Int} {rule : Bool} {c : Cnd} {j b1 i0 : Nat} {pv : Value} (h0 : RX w0 w vs vw ws i0 errno rule)
    (hC : CndAt w1.heap.size w1 c (w.heap.size + 1) b1) (hX : RX w0 w1 vs vw ws j errno rule) (hS : Stp w0.heap.size (w.alloc (.cells (combRaw 4 (.slice none 0 0)).row 436)) w1)
    (hM : Mid w.heap.size 4 (.slice none 0 0) pv [.pointer (some ⟨b1, 0, none⟩)] w1 wB) :
    CAns w0 w vs vw ws errno rule (some (.neg c, j)) (.returned (.tuple #[.pointer (some ⟨w.heap.size, 0, none⟩), .nilIface])) wB := by
  have hr := h0.rd.lt
  have hsz : w.heap.size < w1.heap.size := by have := hS.size; simp at this; omega
  obtain ⟨pa, pc, rfl, hpa⟩ := row_slice hM.row
  obtain ⟨g, rfl⟩ := hpa (by simp)
  obtain ⟨hg1, hg2⟩ := hM.row.lt g rfl
  have hcell := hM.row.cells (g := g) rfl 0 _ rfl
  have hcell' : wB.cell? ⟨g, 0, none⟩ = some (.pointer (some ⟨b1, 0, none⟩)) := by simpa [Addr.add] using hcell
  refine ⟨⟨_, rfl, ⟨Nat.le_refl _, by have := hM.size; omega, _, g, pc, b1, hM.blk, rfl, rfl, by omega, hg2, hcell', ?_⟩, ?_⟩, ?_⟩
  · exact (hC.keep fun k hk1 hk2 => hM.keep k hk2 (by omega) (by simp [Value.ownBlock])).mono hM.size (Nat.le_refl _)
  · exact hX.keep h0 hM.size hM.os hM.tape hM.output fun k hk => hM.keep k (by omega) (by omega) (by simp [Value.ownBlock])
  · have hS0 : Stp w0.heap.size w w1 := (Stp.of_below ((Below.refl _ _).alloc (Nat.le_refl _) _)).trans hS
    exact ⟨hM.os.trans hS0.os, hM.tape.trans hS0.tape, hM.output.trans hS0.output, Nat.le_trans hS0.size hM.size, fun k hk hne => (hM.keep k (by omega) (by omega) (by simp [Value.ownBlock])).trans (hS0.block k hk hne)⟩

/-- and, or, of the two parts. -/
theorem comb2_at {w0 w w1 wB w4 wC : World} {vs vw : Value} {ws : List (List UInt8)} {errno : Int} {rule : Bool} {c d : Cnd} {j b1 b2 i0 : Nat} {pv pv2 : Value} {test : Int} (ht : test = 5 ∨ test = 6) (h0 : RX w0 w vs vw ws i0 errno rule)
    (hC : CndAt w1.heap.size w1 c (w.heap.size + 1) b1) (hS : Stp w0.heap.size (w.alloc (.cells (combRaw test (.slice none 0 0)).row 436)) w1)
    (hM : Mid w.heap.size test (.slice none 0 0) pv [.pointer (some ⟨b1, 0, none⟩)] w1 wB) (hD : CndAt w4.heap.size w4 d wB.heap.size b2) (hX : RX w0 w4 vs vw ws j errno rule) (hS4 : Stp w0.heap.size wB w4)
    (hM2 : Mid w.heap.size test pv pv2 [.pointer (some ⟨b1, 0, none⟩), .pointer (some ⟨b2, 0, none⟩)] w4 wC) :
    CAns w0 w vs vw ws errno rule (some (.two c d, j)) (.returned (.tuple #[.pointer (some ⟨w.heap.size, 0, none⟩), .nilIface])) wC := by
  have hr := h0.rd.lt
  have hsz : w.heap.size < w1.heap.size := by have := hS.size; simp at this; omega
  have hs1 := hM.size
  have hs2 := hS4.size
  have hs3 := hM2.size
  obtain ⟨pa, pc, rfl, hpa⟩ := row_slice hM.row
  obtain ⟨g, rfl⟩ := hpa (by simp)
  obtain ⟨hg1, hg2⟩ := hM.row.lt g rfl
  have hgn : w1.heap.size ≤ g := by
    rcases hM.new g rfl with h | h
    · simp [Value.ownBlock] at h
    · exact h
  obtain ⟨pa2, pc2, rfl, hpa2⟩ := row_slice hM2.row
  obtain ⟨g2, rfl⟩ := hpa2 (by simp)
  obtain ⟨hg3, hg4⟩ := hM2.row.lt g2 rfl
  have c0 := hM2.row.cells (g := g2) rfl 0 _ rfl
  have c1 := hM2.row.cells (g := g2) rfl 1 _ rfl
  have c0' : wC.cell? ⟨g2, 0, none⟩ = some (.pointer (some ⟨b1, 0, none⟩)) := by simpa [Addr.add] using c0
  have c1' : wC.cell? ⟨g2, 1, none⟩ = some (.pointer (some ⟨b2, 0, none⟩)) := by simpa [Addr.add] using c1
  have hkeep2 : ∀ k, k < w4.heap.size → k ≠ w.heap.size → k ≠ g → wC.heap[k]? = w4.heap[k]? := fun k hk h1 h2 => hM2.keep k hk h1 (by simp [Value.ownBlock]; exact h2)
  have hkeep1 : ∀ k, k < w1.heap.size → k ≠ w.heap.size → k ≠ w0.heap.size → wC.heap[k]? = w1.heap[k]? := fun k hk h1 h2 =>
    ((hkeep2 k (by omega) h1 (by omega)).trans (hS4.block k (by omega) (by simp; exact h2))).trans (hM.keep k hk h1 (by simp [Value.ownBlock]))
  refine ⟨⟨_, rfl, ⟨Nat.le_refl _, by omega, _, g2, pc2, b1, b2, hM2.blk, ht, rfl, by omega, hg4, c0', c1', ?_, ?_⟩, ?_⟩, ?_⟩
  · exact (hC.keep fun k hk1 hk2 => hkeep1 k hk2 (by omega) (by omega)).mono (by omega) (Nat.le_refl _)
  · exact (hD.keep fun k hk1 hk2 => hkeep2 k hk2 (by omega) (by omega)).mono hs3 (by omega)
  · exact hX.keep h0 hs3 hM2.os hM2.tape hM2.output fun k hk => hkeep2 k (by omega) (by omega) (by omega)
  · have hS0 : Stp w0.heap.size w w1 := (Stp.of_below ((Below.refl _ _).alloc (Nat.le_refl _) _)).trans hS
    exact ⟨(hM2.os.trans hS4.os).trans (hM.os.trans hS0.os), (hM2.tape.trans hS4.tape).trans (hM.tape.trans hS0.tape), (hM2.output.trans hS4.output).trans (hM.output.trans hS0.output), by have := hS0.size; omega,
      fun k hk hne => (hkeep1 k (by omega) (by omega) (by simpa using hne)).trans (hS0.block k hk hne)⟩
end Go.Proofs.YtnpjldffciociaaGreatDoor
namespace Go.Proofs.YtnpjldffciociaaGreatDoor
open Go.RowKit

theorem cword_inv (x : List UInt8) : (cword x = .any → x = wAny) ∧ (cword x = .isin → x = wIn) ∧ (cword x = .neg → x = wNot) ∧ (cword x = .two → x = wAnd ∨ x = wOr) ∧
    (∀ m, cword x = .three m → (m = 0 ∧ x = wEq) ∨ (m = 1 ∧ x = wLt) ∨ (m = 2 ∧ x = wSame)) ∧
    (cword x = .none → ((x == wAny) = false ∧ (x == wEq) = false ∧ (x == wLt) = false ∧ (x == wSame) = false) ∧ (x == wNot) = false ∧ (x == wAnd) = false ∧ (x == wOr) = false ∧ (x == wIn) = false) := by
  unfold cword
  by_cases h1 : x = wAny
  · subst h1; simp
  by_cases h2 : x = wEq
  · subst h2; simp
  by_cases h3 : x = wLt
  · subst h3; simp
  by_cases h4 : x = wSame
  · subst h4; simp
  by_cases h5 : x = wIn
  · subst h5; simp
  by_cases h6 : x = wNot
  · subst h6; simp
  by_cases h7 : x = wAnd
  · subst h7; simp
  by_cases h8 : x = wOr
  · subst h8; simp
  rw [if_neg h1, if_neg h2, if_neg h3, if_neg h4, if_neg h5, if_neg h6, if_neg h7, if_neg h8]
  simp [h1, h2, h3, h4, h5, h6, h7, h8]
theorem parse_eq (ts : List (List UInt8 × List Bool)) (law : Bool) (ws : List (List UInt8)) (k i : Nat) (h : wordAt ws i = wEq) : parseC ts law ws (k + 1) i = equalR ws (i + 1) := by
  rw [parseC, h, cword_eq]
  unfold equalR vomR
  simp only [if_true]
  cases colRaw (wordAt ws (i + 1)) with
  | none => rfl
  | some a =>
    simp only
    by_cases hm : wordAt ws (i + 2) = wMe
    · rw [if_pos hm, if_pos (show wordAt ws (i + 1 + 1) = wMe from hm)]
    · rw [if_neg hm, if_neg (show ¬ wordAt ws (i + 1 + 1) = wMe from hm)]
      rfl
theorem parse_lt (ts : List (List UInt8 × List Bool)) (law : Bool) (ws : List (List UInt8)) (k i : Nat) (h : wordAt ws i = wLt) : parseC ts law ws (k + 1) i = lessR ws (i + 1) := by
  rw [parseC, h, cword_lt]; rfl
theorem parse_same (ts : List (List UInt8 × List Bool)) (law : Bool) (ws : List (List UInt8)) (k i : Nat) (h : wordAt ws i = wSame) : parseC ts law ws (k + 1) i = sameR ws (i + 1) := by
  rw [parseC, h, cword_same]; rfl
theorem parse_in (ts : List (List UInt8 × List Bool)) (law : Bool) (ws : List (List UInt8)) (k i : Nat) (h : wordAt ws i = wIn) : parseC ts law ws (k + 1) i = inR ts law ws (i + 1) := by
  rw [parseC, h, cword_in]; rfl

theorem xcond (w0 : World) (vs vw : Value) (ts : List (List UInt8 × List Bool)) (ws : List (List UInt8)) (errno : Int) (rule : Bool) (hg : Glob w0) (hs : ReadsTabs tcode w0 vs ts) (hl : ts.length ≤ 1048577) : ∀ (k : Nat) (w : World) (taken : Nat), ws.length < taken + k → taken ≤ ws.length →
    RX w0 w vs vw ws taken errno rule → Calls Tryz.prog 243 #[.pointer (some ⟨w0.heap.size, 0, none⟩)] w fun e w' => CAns w0 w vs vw ws errno rule (parseC ts rule ws k taken) e w' := by
  intro k
  induction k with
  | zero => intro w taken h1 h2; omega
  | succ k ih =>
    intro w taken h1 h2 hX
    have hlen := hX.len
    refine xcond_of w0 w vs vw ws taken errno rule hX (by omega) _ ?_
    have hw := xword w0 w vs vw ws taken errno rule hX (by omega)
    obtain ⟨i1, i2, i3, i4, i5, i6⟩ := cword_inv (wordAt ws taken)
    match hcw : cword (wordAt ws taken) with
    | .inr (some (false, false)) =>
      rw [i1 hcw] at hw
      refine (ptest_any _ w _ hw).mono ?_
      rintro e w' ⟨w1, ⟨hX1, hS⟩, rfl, rfl⟩
      rw [parseC, hcw]
      exact CAns.new hX1 hS (Below.refl _ _) _ _ fun hi W lo b' h1 h2 hr => ⟨h1, h2, _, hr, rfl, rfl⟩
    | .inr none =>
      obtain ⟨⟨a1, a2, a3, a4⟩, a5, a6, a7, a8⟩ := i6 hcw
      rw [parseC, hcw]
      refine (ptest_none _ _ w _ (fun v w' => Err w' errno v ∧ Stp w0.heap.size w w') a1 a2 a3 a4 a5 a6 a7 a8 hw fun w1 s hP => (xwrong w0 w1 w1 vs vw ws _ errno rule hP.1 (Below.refl _ _) s).mono ?_).mono ?_
      · rintro e w' ⟨te, pe, rfl, hE, hb⟩
        exact ⟨te, pe, rfl, hE, hP.2.trans (Stp.of_below hb)⟩
      · rintro e w' ⟨te, pe, rfl, hE, hS⟩
        exact CAns.err hE hS (Below.refl _ _)
    | .inr (some (false, true)) =>
      have hx := i2 hcw
      rw [parse_in ts rule ws k taken hx]
      rw [hx] at hw
      refine (ptest_in _ w _ (fun a b w' => CAns w0 w vs vw ws errno rule (inR ts rule ws (taken + 1)) (.returned (.tuple #[a, b])) w') hw fun w1 hP => (xin w0 w1 vs vw ts ws (taken + 1) errno rule hP.1 (by omega) hs hl).mono fun e w' hA => (hA.trans hP.2).form).mono ?_
      rintro e w' ⟨a, b, rfl, hA⟩; exact hA
    | .inl m =>
      rcases i5 m hcw with ⟨_, hx⟩ | ⟨_, hx⟩ | ⟨_, hx⟩
      · rw [parse_eq ts rule ws k taken hx]
        rw [hx] at hw
        refine (ptest_eq _ w _ (fun a b w' => CAns w0 w vs vw ws errno rule (equalR ws (taken + 1)) (.returned (.tuple #[a, b])) w') hw fun w1 hP => (xequal w0 w1 vs vw ws (taken + 1) errno rule hP.1 (by omega) hg).mono fun e w' hA => (hA.trans hP.2).form).mono ?_
        rintro e w' ⟨a, b, rfl, hA⟩; exact hA
      · rw [parse_lt ts rule ws k taken hx]
        rw [hx] at hw
        refine (ptest_lt _ w _ (fun a b w' => CAns w0 w vs vw ws errno rule (lessR ws (taken + 1)) (.returned (.tuple #[a, b])) w') hw fun w1 hP => (xless w0 w1 vs vw ws (taken + 1) errno rule hP.1 (by omega) hg).mono fun e w' hA => (hA.trans hP.2).form).mono ?_
        rintro e w' ⟨a, b, rfl, hA⟩; exact hA
      · rw [parse_same ts rule ws k taken hx]
        rw [hx] at hw
        refine (ptest_same _ w _ (fun a b w' => CAns w0 w vs vw ws errno rule (sameR ws (taken + 1)) (.returned (.tuple #[a, b])) w') hw fun w1 hP => (xsame w0 w1 vs vw ws (taken + 1) errno rule hP.1 (by omega)).mono fun e w' hA => (hA.trans hP.2).form).mono ?_
        rintro e w' ⟨a, b, rfl, hA⟩; exact hA
    | .inr (some (true, false)) =>
      have hx := i3 hcw
      have htl : taken < ws.length := cword_lt' (by rw [hcw]; simp)
      rw [parseC, hcw]
      rw [hx] at hw
      refine (ptest_not _ w _ (fun a b w' => CAns w0 w vs vw ws errno rule (match parseC ts rule ws k (taken + 1) with
        | none => none
        | some (c, j) => some (.neg c, j)) (.returned (.tuple #[a, b])) w') hw fun w1 hP => ?_).mono ?_
      · have hba : Below w1.heap.size w1 (w1.alloc (.cells (combRaw 4 (.slice none 0 0)).row 436)) := (Below.refl _ _).alloc (Nat.le_refl _) _
        have hlt := hP.1.rd.lt
        have hic := ih (w1.alloc (.cells (combRaw 4 (.slice none 0 0)).row 436)) (taken + 1) (by omega) (by omega) (hP.1.below hba)
        cases hp : parseC ts rule ws k (taken + 1) with
        | none =>
          rw [hp] at hic
          refine (pcomb_no _ 4 1 (by decide) w1 (fun v w' => Err w' errno v ∧ Stp w0.heap.size w w') ?_).mono ?_
          · rintro W rfl
            refine hic.mono ?_
            rintro e w' ⟨⟨te, pe, rfl, hE⟩, hS⟩
            exact ⟨te, pe, rfl, hE, (hP.2.trans (Stp.of_below hba)).trans hS⟩
          · rintro e w' ⟨te, pe, rfl, hE, hS⟩
            exact ⟨_, _, rfl, CAns.err hE hS (Below.refl _ _)⟩
        | some p =>
          obtain ⟨c, j⟩ := p
          rw [hp] at hic
          refine (pcomb1_yes _ 4 w1 (fun b1 w' => CndAt w'.heap.size w' c (w1.heap.size + 1) b1 ∧ RX w0 w' vs vw ws j errno rule ∧ Stp w0.heap.size (w1.alloc (.cells (combRaw 4 (.slice none 0 0)).row 436)) w') ?_).mono ?_
          · rintro W rfl
            refine hic.mono ?_
            rintro e w' ⟨⟨b1, rfl, hC, hX'⟩, hS⟩
            have hsz := hS.size
            simp at hsz
            exact ⟨b1, rfl, (hS.block _ (by simp) (by simp; omega)).trans (heap_alloc_new w1 _), by omega, by simpa using hC, hX', hS⟩
          · rintro e w' ⟨b1, wA, pv, rfl, ⟨hC, hX', hS⟩, hM⟩
            exact ⟨_, _, rfl, (comb1_at hP.1 hC hX' hS hM).trans hP.2⟩
      · rintro e w' ⟨a, b, rfl, hA⟩; exact hA
    | .inr (some (true, true)) =>
      have htl : taken < ws.length := cword_lt' (by rw [hcw]; simp)
      rw [parseC, hcw]
      have key : ∀ (test : Int), (test = 5 ∨ test = 6) → ∀ w1, RX w0 w1 vs vw ws (taken + 1) errno rule ∧ Stp w0.heap.size w w1 → Calls Tryz.prog 330 #[.pointer (some ⟨w0.heap.size, 0, none⟩), .int .i64 test, .int .i64 2] w1 fun e w' =>
          ∃ a b, e = .returned (.tuple #[a, b]) ∧ CAns w0 w vs vw ws errno rule (match parseC ts rule ws k (taken + 1) with
            | none => none
            | some (c, j) => match parseC ts rule ws k j with
              | none => none
              | some (d, j2) => some (.two c d, j2)) (.returned (.tuple #[a, b])) w' := by
        intro test ht w1 hP
        have hba : Below w1.heap.size w1 (w1.alloc (.cells (combRaw test (.slice none 0 0)).row 436)) := (Below.refl _ _).alloc (Nat.le_refl _) _
        have hlt := hP.1.rd.lt
        have hic := ih (w1.alloc (.cells (combRaw test (.slice none 0 0)).row 436)) (taken + 1) (by omega) (by omega) (hP.1.below hba)
        cases hp : parseC ts rule ws k (taken + 1) with
        | none =>
          rw [hp] at hic
          refine (pcomb_no _ test 2 (by decide) w1 (fun v w' => Err w' errno v ∧ Stp w0.heap.size w w') ?_).mono ?_
          · rintro W rfl
            refine hic.mono ?_
            rintro e w' ⟨⟨te, pe, rfl, hE⟩, hS⟩
            exact ⟨te, pe, rfl, hE, (hP.2.trans (Stp.of_below hba)).trans hS⟩
          · rintro e w' ⟨te, pe, rfl, hE, hS⟩
            exact ⟨_, _, rfl, CAns.err hE hS (Below.refl _ _)⟩
        | some p =>
          obtain ⟨c, j⟩ := p
          rw [hp] at hic
          obtain ⟨p1, p2, _⟩ := parse_len ts rule ws _ _ _ _ hp
          have hone : ∀ W, W = w1.alloc (.cells (combRaw test (.slice none 0 0)).row 436) → Calls Tryz.prog 243 #[.pointer (some ⟨w0.heap.size, 0, none⟩)] W fun e w' => ∃ b1, e = .returned (.tuple #[.pointer (some ⟨b1, 0, none⟩), .nilIface]) ∧ CBk w' w1.heap.size (combRaw test (.slice none 0 0)) ∧ w1.heap.size < w'.heap.size ∧
              (CndAt w'.heap.size w' c (w1.heap.size + 1) b1 ∧ RX w0 w' vs vw ws j errno rule ∧ Stp w0.heap.size (w1.alloc (.cells (combRaw test (.slice none 0 0)).row 436)) w') := by
            rintro W rfl
            refine hic.mono ?_
            rintro e w' ⟨⟨b1, rfl, hC, hX'⟩, hS⟩
            have hsz := hS.size
            simp at hsz
            exact ⟨b1, rfl, (hS.block _ (by simp) (by simp; omega)).trans (heap_alloc_new w1 _), by omega, by simpa using hC, hX', hS⟩
          have htwo : ∀ (b1 : Nat) (wA : World) (pv : Value) (W : World), (CndAt wA.heap.size wA c (w1.heap.size + 1) b1 ∧ RX w0 wA vs vw ws j errno rule ∧ Stp w0.heap.size (w1.alloc (.cells (combRaw test (.slice none 0 0)).row 436)) wA) → Mid w1.heap.size test (.slice none 0 0) pv [.pointer (some ⟨b1, 0, none⟩)] wA W →
              RX w0 W vs vw ws j errno rule ∧ w1.heap.size < W.heap.size ∧ Stp w0.heap.size w1 W := by
            rintro b1 wA pv W ⟨hC, hX', hS⟩ hM
            have hsz := hS.size
            simp at hsz
            have hS0 : Stp w0.heap.size w1 wA := (Stp.of_below hba).trans hS
            refine ⟨hX'.keep hP.1 hM.size hM.os hM.tape hM.output fun q hq => hM.keep q (by omega) (by omega) (by simp [Value.ownBlock]), by have := hM.size; omega, ?_⟩
            exact ⟨hM.os.trans hS0.os, hM.tape.trans hS0.tape, hM.output.trans hS0.output, Nat.le_trans hS0.size hM.size, fun q hq hne => (hM.keep q (by omega) (by omega) (by simp [Value.ownBlock])).trans (hS0.block q hq hne)⟩
          simp only
          cases hq : parseC ts rule ws k j with
          | none =>
            refine (pcomb2_no _ test w1 _ (fun v w' => Err w' errno v ∧ Stp w0.heap.size w w') hone fun b1 wA pv W hA hM => ?_).mono ?_
            · obtain ⟨hXW, hszW, hSW⟩ := htwo b1 wA pv W hA hM
              have hic2 := ih W j (by omega) p2 hXW
              rw [hq] at hic2
              refine hic2.mono ?_
              rintro e w' ⟨⟨te, pe, rfl, hE⟩, hS⟩
              exact ⟨te, pe, rfl, hE, (hP.2.trans hSW).trans hS⟩
            · rintro e w' ⟨te, pe, rfl, hE, hS⟩
              exact ⟨_, _, rfl, CAns.err hE hS (Below.refl _ _)⟩
          | some p' =>
            obtain ⟨d, j2⟩ := p'
            refine (pcomb2_yes _ test w1 _ (fun b1 wA pv W b2 w' => CndAt w'.heap.size w' d W.heap.size b2 ∧ RX w0 w' vs vw ws j2 errno rule ∧ Stp w0.heap.size W w') hone fun b1 wA pv W hA hM => ?_).mono ?_
            · obtain ⟨hXW, hszW, hSW⟩ := htwo b1 wA pv W hA hM
              have hic2 := ih W j (by omega) p2 hXW
              rw [hq] at hic2
              refine hic2.mono ?_
              rintro e w' ⟨⟨b2, rfl, hD, hX2⟩, hS⟩
              have hsz := hS.size
              refine ⟨b2, rfl, (hS.block _ hszW (by simp; omega)).trans hM.blk, ?_, by omega, hD, hX2, hS⟩
              have hrow : W.ownsRow (w1.heap.size + 1) 109 1 pv 1 [.pointer (some ⟨b1, 0, none⟩)] := hM.row
              refine hrow.kept hS ?_
              cases ho : pv.ownBlock with
              | none => exact Or.inl rfl
              | some g =>
                right
                have := (hrow.lt g ho).1
                simp; omega
            · rintro e w' ⟨b1, wA, pv, W, b2, w4, pv2, rfl, ⟨hC, hX', hS⟩, hM, ⟨hD, hX2, hS2⟩, hM2⟩
              exact ⟨_, _, rfl, (comb2_at ht hP.1 hC hS hM hD hX2 hS2 hM2).trans hP.2⟩
      rcases i4 hcw with hx | hx
      · rw [hx] at hw
        refine (ptest_and _ w _ _ hw (key 5 (Or.inl rfl))).mono ?_
        rintro e w' ⟨a, b, rfl, hA⟩; exact hA
      · rw [hx] at hw
        refine (ptest_or _ w _ _ hw (key 6 (Or.inr rfl))).mono ?_
        rintro e w' ⟨a, b, rfl, hA⟩; exact hA
end Go.Proofs.YtnpjldffciociaaGreatDoor
