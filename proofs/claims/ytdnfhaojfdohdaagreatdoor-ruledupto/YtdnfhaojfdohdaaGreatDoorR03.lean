import Derived.Test.YtdnfhaojfdohdaaGreatDoorR02
namespace Go.Proofs.YtdnfhaojfdohdaaGreatDoor
open Go.RowKit

abbrev typesOf (ts : List (List UInt8 × List Bool)) (t : Nat) : List Bool := (ts.getD t ([], [])).2
def allowP (ts : List (List UInt8 × List Bool)) (ws : List (List UInt8)) : Bool :=
  match findT ts (wordAt ws 1) with
  | none => false
  | some t => condAt ts (typesOf ts t) true ws 2 (ws.length - 2)
def maskP (ts : List (List UInt8 × List Bool)) (ws : List (List UInt8)) : Option (Nat × Nat) :=
  match findT ts (wordAt ws 1) with
  | none => none
  | some t => match colRaw (wordAt ws 2) with
    | none => none
    | some c => match valKind (wordAt ws 3) with
      | none => none
      | some b => if (typesOf ts t)[c]? = some b ∧ condAt ts (typesOf ts t) true ws 4 (ws.length - 4) = true then some (t, c) else none
/-- What a rule does: none: it is none; an allow; a mask. -/
def RAns (w0 : World) (lb na : Nat) (ms : List MRow) (o : Option (Option (Nat × Nat))) (errno : Int) (e : Ending) (w' : World) : Prop :=
  (match o with
    | none => ∃ te pe, e = .returned (.iface te pe) ∧ Err w' errno (.iface te pe)
    | some none => e = .returned .nilIface ∧ ∃ av mv xs, LawAt w' lb av mv (na + 1) xs ms
    | some (some (t, c)) => e = .returned .nilIface ∧ ∃ av mv xs m, m.t = t ∧ m.c = c ∧ LawAt w' lb av mv na xs (ms ++ [m])) ∧ Kp lb w0 w'
/-- What the reader of a rule has at hand. -/
structure Hand (w0 : World) (vs : Value) (ts : List (List UInt8 × List Bool)) (lb : Nat) (av mv : Value) (na : Nat) (xs : List Value) (ms : List MRow) : Prop where
  glob : Glob w0
  tabs : ReadsTabs tcode w0 vs ts
  few : ts.length ≤ 1048577
  narrow : ∀ t, (typesOf ts t).length ≤ 9
  named : ∀ t ∈ ts, t.1 ≠ []
  law : LawAt w0 lb av mv na xs ms
  na : na ≤ 1000
  nm : ms.length ≤ 1000
theorem Stp.from {w0 w w' : World} {vs vw : Value} {ws : List (List UInt8)} {taken : Nat} {errno : Int} {rule : Bool} (h : Stp w0.heap.size w w') (hX : RX w0 w vs vw ws taken errno rule) : Below w0.heap.size w0 w' := hX.bel.trans (h.below (Nat.le_of_lt hX.rd.lt))
theorem findT_word {ts : List (List UInt8 × List Bool)} {ws : List (List UInt8)} {i t : Nat} (hn : ∀ t ∈ ts, t.1 ≠ []) (h : findT ts (wordAt ws i) = some t) : i < ws.length ∧ t < ts.length := by
  have hlt := findT_lt h
  refine ⟨word_lt fun e => ?_, hlt⟩
  unfold findT at h
  rw [List.findIdx?_eq_some_iff_getElem] at h
  obtain ⟨h1, h2, _⟩ := h
  rw [e] at h2
  exact hn ts[t] (List.getElem_mem h1) (by simpa using h2)
theorem RAns.err {w0 w w' : World} {vs vw : Value} {ws : List (List UInt8)} {taken lb na : Nat} {errno : Int} {rule : Bool} {ms : List MRow} {te : TypeId} {pe : Value} (hX : RX w0 w vs vw ws taken errno rule) (hE : Err w' errno (.iface te pe)) (hS : Stp w0.heap.size w w') (hlb : lb ≤ w0.heap.size) :
    RAns w0 lb na ms none errno (.returned (.iface te pe)) w' := ⟨⟨te, pe, rfl, hE⟩, Kp.of_below (hS.from hX) hlb⟩

theorem xallow (w0 w : World) (vs vw : Value) (ts : List (List UInt8 × List Bool)) (ws : List (List UInt8)) (errno : Int) (lb na : Nat) (av mv : Value) (xs : List Value) (ms : List MRow) (H : Hand w0 vs ts lb av mv na xs ms) (hX : RX w0 w vs vw ws 1 errno true) :
    Calls Tryz.prog 152 #[.pointer (some ⟨w0.heap.size, 0, none⟩), .pointer (some ⟨lb, 0, none⟩)] w fun e w' => RAns w0 lb na ms (match allowP ts ws with
      | true => some none
      | false => none) errno e w' := by
  have hlb : lb < w0.heap.size := (Array.getElem?_eq_some_iff.1 H.law.blk).1
  have h1 := xtable w0 w vs vw ts ws 1 errno true hX (by omega) H.tabs H.few
  unfold allowP
  cases hf : findT ts (wordAt ws 1) with
  | none =>
    rw [hf] at h1
    refine (pallow_table _ lb w (fun v w' => Err w' errno v ∧ Stp w0.heap.size w w') (h1.mono ?_)).mono ?_
    · rintro e w' ⟨⟨te, pe, rfl, hE⟩, _, hS⟩; exact ⟨te, pe, rfl, hE, hS⟩
    · rintro e w' ⟨te, pe, rfl, hE, hS⟩
      exact RAns.err hX hE hS (Nat.le_of_lt hlb)
  | some t =>
    rw [hf] at h1
    obtain ⟨hw1, htl⟩ := findT_word H.named hf
    have h2 := fun w1 (hP : RX w0 w1 vs vw ws 2 errno true ∧ Stp w0.heap.size w w1) => xlast w0 w1 vs vw ts ws 2 t errno true H.glob H.tabs H.few H.narrow htl hP.1 (by omega)
    simp only
    cases hok : condAt ts (typesOf ts t) true ws 2 (ws.length - 2) with
    | false =>
      rw [hok] at h2
      refine (pallow_last _ lb t w _ (fun v w' => Err w' errno v ∧ Stp w0.heap.size w w') h1 fun w1 hP => (h2 w1 hP).mono ?_).mono ?_
      · rintro e w' ⟨hA, hS⟩
        obtain ⟨p, te, pe, rfl, hE⟩ : ∃ p te pe, e = .returned (.tuple #[.pointer p, .iface te pe]) ∧ Err w' errno (.iface te pe) := by simpa using hA
        exact ⟨p, te, pe, rfl, hE, hP.2.trans hS⟩
      · rintro e w' ⟨te, pe, rfl, hE, hS⟩
        exact RAns.err hX hE hS (Nat.le_of_lt hlb)
    | true =>
      rw [hok] at h2
      refine (pallow_yes _ lb t na av mv xs ms w _ (fun w' => Below w0.heap.size w0 w') H.na h1 fun w1 hP => (h2 w1 hP).mono ?_).mono ?_
      · rintro e w' ⟨hA, hS⟩
        have hB := (hP.2.trans hS).from hX
        exact ⟨by simpa using hA, H.law.below hB, hB⟩
      · rintro e w' ⟨rfl, w2, av', xs', hB, hL, hb⟩
        exact ⟨⟨rfl, av', mv, xs', hL⟩, (Kp.of_below hB (Nat.le_of_lt hlb)).trans hb⟩

theorem xmask (w0 w : World) (vs vw : Value) (ts : List (List UInt8 × List Bool)) (ws : List (List UInt8)) (errno : Int) (lb na : Nat) (av mv : Value) (xs : List Value) (ms : List MRow) (H : Hand w0 vs ts lb av mv na xs ms) (hX : RX w0 w vs vw ws 1 errno true) :
    Calls Tryz.prog 153 #[.pointer (some ⟨w0.heap.size, 0, none⟩), .pointer (some ⟨lb, 0, none⟩)] w fun e w' => RAns w0 lb na ms (match maskP ts ws with
      | none => none
      | some (t, c) => if hasMask ms t c then none else some (some (t, c))) errno e w' := by
  have hlb : lb < w0.heap.size := (Array.getElem?_eq_some_iff.1 H.law.blk).1
  have h1 := xtable w0 w vs vw ts ws 1 errno true hX (by omega) H.tabs H.few
  unfold maskP
  cases hf : findT ts (wordAt ws 1) with
  | none =>
    rw [hf] at h1
    refine (pmask_table _ lb w (fun v w' => Err w' errno v ∧ Stp w0.heap.size w w') (h1.mono ?_)).mono ?_
    · rintro e w' ⟨⟨te, pe, rfl, hE⟩, _, hS⟩; exact ⟨te, pe, rfl, hE, hS⟩
    · rintro e w' ⟨te, pe, rfl, hE, hS⟩
      exact RAns.err hX hE hS (Nat.le_of_lt hlb)
  | some t =>
    rw [hf] at h1
    obtain ⟨hw1, htl⟩ := findT_word H.named hf
    have h2 := fun w1 (hP : RX w0 w1 vs vw ws 2 errno true ∧ Stp w0.heap.size w w1) => xcolumn w0 w1 vs vw ws 2 errno true hP.1 (by omega)
    simp only
    cases hc : colRaw (wordAt ws 2) with
    | none =>
      rw [hc] at h2
      refine (pmask_col _ lb t w _ (fun v w' => Err w' errno v ∧ Stp w0.heap.size w w') h1 fun w1 hP => (h2 w1 hP).mono ?_).mono ?_
      · rintro e w' ⟨⟨te, pe, rfl, hE⟩, _, hS⟩; exact ⟨te, pe, rfl, hE, hP.2.trans hS⟩
      · rintro e w' ⟨te, pe, rfl, hE, hS⟩
        exact RAns.err hX hE hS (Nat.le_of_lt hlb)
    | some c =>
      rw [hc] at h2
      have hc9 : c < 9 := colRaw_ok hc
      have h2' : ∀ w1, (RX w0 w1 vs vw ws 2 errno true ∧ Stp w0.heap.size w w1) → Calls Tryz.prog 203 #[.pointer (some ⟨w0.heap.size, 0, none⟩)] w1 fun e w' => e = .returned (.tuple #[.int .i64 c, .nilIface]) ∧ RX w0 w' vs vw ws 3 errno true ∧ Stp w0.heap.size w w' :=
        fun w1 hP => (h2 w1 hP).mono fun e w' ⟨he, hX', hS⟩ => ⟨he, hX', hP.2.trans hS⟩
      have h3 : ∀ w1, (RX w0 w1 vs vw ws 3 errno true ∧ Stp w0.heap.size w w1) → Calls Tryz.prog 151 #[.pointer (some ⟨w0.heap.size, 0, none⟩)] w1 fun e w' => e = .returned (.string (bs (wordAt ws 3))) ∧ RX w0 w' vs vw ws 4 errno true ∧ Stp w0.heap.size w w' :=
        fun w1 hP => (xword w0 w1 vs vw ws 3 errno true hP.1 (by omega)).mono fun e w' ⟨he, hX', hS⟩ => ⟨he, hX', hP.2.trans hS⟩
      have h4 := fun w1 (hP : RX w0 w1 vs vw ws 4 errno true ∧ Stp w0.heap.size w w1) => xvalue w0 w1 vs vw ws 4 errno true hP.1 (wordAt ws 3) (hX.word_len _) (H.glob.kept hP.1.bel)
      simp only
      cases hv : valKind (wordAt ws 3) with
      | none =>
        rw [hv] at h4
        refine (pmask_val _ lb t c _ w _ _ _ (fun v w' => Err w' errno v ∧ Stp w0.heap.size w w') h1 h2' h3 fun w1 hP => (h4 w1 hP).mono ?_).mono ?_
        · rintro e w' ⟨⟨te, pe, rfl, hE⟩, hb⟩; exact ⟨te, pe, rfl, hE, hP.2.trans (Stp.of_below hb)⟩
        · rintro e w' ⟨te, pe, w1, rfl, ⟨hE, hS⟩, hb⟩
          exact RAns.err hX (hE.kept hb) (hS.trans (Stp.of_below hb)) (Nat.le_of_lt hlb)
      | some b =>
        rw [hv] at h4
        have hw3 := valKind_lt hv
        have h4' : ∀ w1, (RX w0 w1 vs vw ws 4 errno true ∧ Stp w0.heap.size w w1) → Calls Tryz.prog 204 #[.pointer (some ⟨w0.heap.size, 0, none⟩), .string (bs (wordAt ws 3))] w1 fun e w' => (∃ n S, e = .returned (.tuple #[.agg #[.int .i64 (tnum b), .int .i64 n, .string S], .nilIface])) ∧ RX w0 w' vs vw ws 4 errno true ∧ Stp w0.heap.size w w' :=
          fun w1 hP => (h4 w1 hP).mono fun e w' ⟨he, hb⟩ => ⟨he, hP.1.below hb, hP.2.trans (Stp.of_below hb)⟩
        have he : ts.getD t ([], []) = ts[t] := by simp [List.getD, htl]
        obtain ⟨a0, cap0, hvs, hrow⟩ := id H.tabs
        obtain ⟨sb, soff, tv, ha0, hsb, _, hc2, hrd⟩ := hrow t ts[t] (List.getElem?_eq_getElem htl)
        have hll : ts[t].2.length ≤ 1048577 := by rw [← he]; exact Nat.le_trans (H.narrow t) (by decide)
        have hS : ∀ (w4 W : World), (RX w0 w4 vs vw ws 4 errno true ∧ Stp w0.heap.size w w4) → Below w4.heap.size w4 W → W.cell? ⟨w0.heap.size, 0, none⟩ = some (.slice (some ⟨sb, soff, none⟩) ts.length cap0) ∧ W.cell? ⟨sb, soff + t * 2 + 1, none⟩ = some tv ∧
            ∀ m, Calls Tryz.prog 205 #[tv, .int .i64 c] (W.drewN m) fun e w' => e = .returned (.int .i64 (typeNum ts[t].2 c)) ∧ w' = W.drewN m := by
          intro w4 W hP hb
          have hXW := hP.1.below hb
          have hrd' := hrd.below hXW.bel
          refine ⟨?_, (hXW.bel.cell (p := ⟨sb, soff + t * 2 + 1, none⟩) hsb).trans hc2, fun m => ptypeAt_any (W.drewN m) tv ts[t].2 c hrd' hll (by omega)⟩
          rw [← ha0, ← hvs]; exact hXW.rd.c0
        have hF : ∀ (w4 W : World) (s : ByteArray), (RX w0 w4 vs vw ws 4 errno true ∧ Stp w0.heap.size w w4) → Below w4.heap.size w4 W → Calls Tryz.prog 93 #[.pointer (some ⟨w0.heap.size, 0, none⟩), .string s] W fun e w' => ∃ te pe, e = .returned (.iface te pe) ∧ (Err w' errno (.iface te pe) ∧ Stp w0.heap.size w w') := by
          intro w4 W s hP hb
          refine (pfault_any W w0.heap.size errno s (hP.1.below hb).rd.c3).mono ?_
          rintro e w' ⟨rfl, rfl⟩
          exact ⟨_, _, rfl, Err.new _ _ _, (hP.2.trans (Stp.of_below hb)).trans (Stp.of_below ((Below.refl _ _).alloc (Nat.le_refl _) _))⟩
        have hK := fun (w4 W : World) (hP : RX w0 w4 vs vw ws 4 errno true ∧ Stp w0.heap.size w w4) (hb : Below w4.heap.size w4 W) => pmasked W lb t c na av mv xs ms (H.law.below (hP.1.below hb).bel) H.nm
        have hLst := fun (w4 W : World) (hP : RX w0 w4 vs vw ws 4 errno true ∧ Stp w0.heap.size w w4) (hb : Below w4.heap.size w4 W) => xlast w0 W vs vw ts ws 4 t errno true H.glob H.tabs H.few H.narrow htl (hP.1.below hb) (by omega)
        have hty : decide (typeNum ts[t].2 c = tnum b) = (ts[t].2[c]? == some b) := type_val _ _ _
        simp only [typesOf, he]
        by_cases hT : ts[t].2[c]? = some b
        · have hTn : typeNum ts[t].2 c = tnum b := by
            have : (ts[t].2[c]? == some b) = true := by simpa using hT
            rw [this] at hty; simpa using hty
          rw [hTn] at hS
          cases hok : condAt ts ts[t].2 true ws 4 (ws.length - 4) with
          | false =>
            simp only [hT, Bool.false_eq_true, and_false, if_false]
            cases hdup : hasMask ms t c with
            | true =>
              rw [hdup] at hK
              refine (pmask_dup _ lb t c sb soff _ cap0 tv _ _ w _ _ _ _ (fun v w' => Err w' errno v ∧ Stp w0.heap.size w w') htl H.few h1 h2' h3 h4' hS hK hF).mono ?_
              rintro e w' ⟨te, pe, rfl, hE, hS'⟩
              exact RAns.err hX hE hS' (Nat.le_of_lt hlb)
            | false =>
              rw [hdup] at hK
              refine (pmask_last _ lb t c sb soff _ cap0 tv _ _ w _ _ _ _ (fun v w' => Err w' errno v ∧ Stp w0.heap.size w w') htl H.few h1 h2' h3 h4' hS hK fun w4 W hP hb => (hLst w4 W hP hb).mono ?_).mono ?_
              · rintro e w' ⟨hA, hS'⟩
                rw [he, hok] at hA
                obtain ⟨p, te, pe, rfl, hE⟩ : ∃ p te pe, e = .returned (.tuple #[.pointer p, .iface te pe]) ∧ Err w' errno (.iface te pe) := by simpa using hA
                exact ⟨p, te, pe, rfl, hE, (hP.2.trans (Stp.of_below hb)).trans hS'⟩
              · rintro e w' ⟨te, pe, rfl, hE, hS'⟩
                exact RAns.err hX hE hS' (Nat.le_of_lt hlb)
          | true =>
            simp only [hT, true_and, if_true]
            cases hdup : hasMask ms t c with
            | true =>
              rw [hdup] at hK
              refine (pmask_dup _ lb t c sb soff _ cap0 tv _ _ w _ _ _ _ (fun v w' => Err w' errno v ∧ Stp w0.heap.size w w') htl H.few h1 h2' h3 h4' hS hK hF).mono ?_
              rintro e w' ⟨te, pe, rfl, hE, hS'⟩
              exact RAns.err hX hE hS' (Nat.le_of_lt hlb)
            | false =>
              rw [hdup] at hK
              refine (pmask_yes na av mv xs ms H.nm (fun w' => Below w0.heap.size w0 w') _ lb t c sb soff _ cap0 tv _ _ w _ _ _ _ (fun _ _ => True) htl H.few (fun w4 hP => hP.1.rd.lt) h1 h2' h3 h4' hS hK fun w4 W hP hb => (hLst w4 W hP hb).mono ?_).mono ?_
              · rintro e w' ⟨hA, hS'⟩
                rw [he, hok] at hA
                have hB := ((hP.2.trans (Stp.of_below hb)).trans hS').from hX
                exact ⟨by simpa using hA, H.law.below hB, hS', hB⟩
              · rintro e w' ⟨rfl, w2, mv', m, hB, hmt, hmc, hL, hb⟩
                exact ⟨⟨rfl, av, mv', xs, m, hmt, hmc, hL⟩, (Kp.of_below hB (Nat.le_of_lt hlb)).trans hb⟩
        · have hTn : typeNum ts[t].2 c ≠ tnum b := by
            have : (ts[t].2[c]? == some b) = false := by simpa using hT
            rw [this] at hty; simpa using hty
          simp only [hT, false_and, if_false]
          refine (pmask_type _ lb t c sb soff _ cap0 tv _ _ _ hTn w _ _ _ _ (fun v w' => Err w' errno v ∧ Stp w0.heap.size w w') htl H.few h1 h2' h3 h4' hS hF).mono ?_
          rintro e w' ⟨te, pe, rfl, hE, hS'⟩
          exact RAns.err hX hE hS' (Nat.le_of_lt hlb)
end Go.Proofs.YtdnfhaojfdohdaaGreatDoor
namespace Go.Proofs.YtdnfhaojfdohdaaGreatDoor
open Go.RowKit

abbrev wAllow : List UInt8 := [97, 108, 108, 111, 119]
abbrev wMask : List UInt8 := [109, 97, 115, 107]

set_option maxRecDepth 10000 in
set_option maxHeartbeats 1000000 in
theorem prule_allow (rb lb : Nat) (w : World) (P : World → Prop) (R : Value → World → Prop)
    (hw : Calls Tryz.prog 151 #[.pointer (some ⟨rb, 0, none⟩)] w fun e w' => e = .returned (.string (bs wAllow)) ∧ P w')
    (hr : ∀ w1, P w1 → Calls Tryz.prog 152 #[.pointer (some ⟨rb, 0, none⟩), .pointer (some ⟨lb, 0, none⟩)] w1 fun e w' => ∃ v, e = .returned v ∧ R v w') :
    Calls Tryz.prog 103 #[.pointer (some ⟨rb, 0, none⟩), .pointer (some ⟨lb, 0, none⟩)] w fun e w' => ∃ v, e = .returned v ∧ R v w' := by
  have hbs := bs_toList2
  go_enter Tryz.func103, Tryz.ntmps103
  go_wp2_with (first
    | (go_at_call 151; refine hw.mono ?_; rintro e w1 ⟨rfl, hP⟩)
    | (go_at_call 152; refine (hr _ hP).mono ?_; rintro e w2 ⟨v, rfl, hR⟩))
  go_ret
  exact ⟨v, rfl, hR⟩
set_option maxRecDepth 10000 in
set_option maxHeartbeats 1000000 in
theorem prule_mask (rb lb : Nat) (w : World) (P : World → Prop) (R : Value → World → Prop)
    (hw : Calls Tryz.prog 151 #[.pointer (some ⟨rb, 0, none⟩)] w fun e w' => e = .returned (.string (bs wMask)) ∧ P w')
    (hr : ∀ w1, P w1 → Calls Tryz.prog 153 #[.pointer (some ⟨rb, 0, none⟩), .pointer (some ⟨lb, 0, none⟩)] w1 fun e w' => ∃ v, e = .returned v ∧ R v w') :
    Calls Tryz.prog 103 #[.pointer (some ⟨rb, 0, none⟩), .pointer (some ⟨lb, 0, none⟩)] w fun e w' => ∃ v, e = .returned v ∧ R v w' := by
  have hbs := bs_toList2
  go_enter Tryz.func103, Tryz.ntmps103
  go_wp2_with (first
    | (go_at_call 151; refine hw.mono ?_; rintro e w1 ⟨rfl, hP⟩)
    | (go_at_call 153; refine (hr _ hP).mono ?_; rintro e w2 ⟨v, rfl, hR⟩))
  go_ret
  exact ⟨v, rfl, hR⟩
set_option maxRecDepth 10000 in
set_option maxHeartbeats 1000000 in
theorem prule_none (rb lb : Nat) (x : List UInt8) (w : World) (P : World → Prop) (R : Value → World → Prop) (h1 : (x == wAllow) = false) (h2 : (x == wMask) = false)
    (hw : Calls Tryz.prog 151 #[.pointer (some ⟨rb, 0, none⟩)] w fun e w' => e = .returned (.string (bs x)) ∧ P w')
    (hr : ∀ w1 s, P w1 → Calls Tryz.prog 154 #[.pointer (some ⟨rb, 0, none⟩), .string s] w1 fun e w' => ∃ te pe, e = .returned (.iface te pe) ∧ R (.iface te pe) w') :
    Calls Tryz.prog 103 #[.pointer (some ⟨rb, 0, none⟩), .pointer (some ⟨lb, 0, none⟩)] w fun e w' => ∃ te pe, e = .returned (.iface te pe) ∧ R (.iface te pe) w' := by
  have hbs := bs_toList2
  go_enter Tryz.func103, Tryz.ntmps103
  go_wp2_with (first
    | (go_at_call 151; refine hw.mono ?_; rintro e w1 ⟨rfl, hP⟩)
    | (go_at_call 154; refine (hr _ _ hP).mono ?_; rintro e w2 ⟨te, pe, rfl, hR⟩))
  go_ret
  exact ⟨te, pe, rfl, hR⟩
/-- What a rule is: none; an allow; a mask. -/
def ruleP (ts : List (List UInt8 × List Bool)) (ms : List MRow) (ws : List (List UInt8)) : Option (Option (Nat × Nat)) :=
  if wordAt ws 0 = wAllow then match allowP ts ws with
    | true => some none
    | false => none
  else if wordAt ws 0 = wMask then match maskP ts ws with
    | none => none
    | some (t, c) => if hasMask ms t c then none else some (some (t, c))
  else none
theorem RAns.form {w0 : World} {lb na : Nat} {ms : List MRow} {o : Option (Option (Nat × Nat))} {errno : Int} {e : Ending} {w' : World} (h : RAns w0 lb na ms o errno e w') : ∃ v, e = .returned v := by
  obtain ⟨h, _⟩ := h
  match o, h with
  | none, ⟨te, pe, he, _⟩ => exact ⟨_, he⟩
  | some none, ⟨he, _⟩ => exact ⟨_, he⟩
  | some (some (t, c)), ⟨he, _⟩ => exact ⟨_, he⟩
theorem RAns.cong {w0 : World} {lb na : Nat} {ms : List MRow} {o o' : Option (Option (Nat × Nat))} {errno : Int} {e : Ending} {w' : World} (h : RAns w0 lb na ms o errno e w') (ho : o = o') : RAns w0 lb na ms o' errno e w' := ho ▸ h

theorem RAns.calls {f : Nat} {args : Array Value} {w w0 : World} {lb na : Nat} {ms : List MRow} {o : Option (Option (Nat × Nat))} {errno : Int} (h : Calls Tryz.prog f args w fun e w' => RAns w0 lb na ms o errno e w') : Calls Tryz.prog f args w fun e w' => ∃ v, e = .returned v ∧ RAns w0 lb na ms o errno (.returned v) w' :=
  h.mono fun e w' h => by obtain ⟨v, rfl⟩ := h.form; exact ⟨v, rfl, h⟩
theorem xrule (w0 w : World) (vs vw : Value) (ts : List (List UInt8 × List Bool)) (ws : List (List UInt8)) (errno : Int) (lb na : Nat) (av mv : Value) (xs : List Value) (ms : List MRow) (H : Hand w0 vs ts lb av mv na xs ms) (hX : RX w0 w vs vw ws 0 errno true) :
    Calls Tryz.prog 103 #[.pointer (some ⟨w0.heap.size, 0, none⟩), .pointer (some ⟨lb, 0, none⟩)] w fun e w' => RAns w0 lb na ms (ruleP ts ms ws) errno e w' := by
  have hlb : lb < w0.heap.size := (Array.getElem?_eq_some_iff.1 H.law.blk).1
  have hw := xword w0 w vs vw ws 0 errno true hX (by omega)
  unfold ruleP
  by_cases ha : wordAt ws 0 = wAllow
  · rw [if_pos ha]
    rw [ha] at hw
    refine (prule_allow _ lb w _ _ hw fun w1 hP => RAns.calls (xallow w0 w1 vs vw ts ws errno lb na av mv xs ms H hP.1)).mono ?_
    rintro e w' ⟨v, rfl, h⟩; exact h
  · rw [if_neg ha]
    by_cases hm : wordAt ws 0 = wMask
    · rw [if_pos hm]
      rw [hm] at hw
      refine (prule_mask _ lb w _ _ hw fun w1 hP => RAns.calls (xmask w0 w1 vs vw ts ws errno lb na av mv xs ms H hP.1)).mono ?_
      rintro e w' ⟨v, rfl, h⟩; exact h
    · rw [if_neg hm]
      refine (prule_none _ lb _ w _ (fun v w' => Err w' errno v ∧ Stp w0.heap.size w w') (by simpa using ha) (by simpa using hm) hw fun w1 s hP => (xwrong w0 w1 w1 vs vw ws 1 errno true hP.1 (Below.refl _ _) s).mono ?_).mono ?_
      · rintro e w' ⟨te, pe, rfl, hE, hb⟩
        exact ⟨te, pe, rfl, hE, hP.2.trans (Stp.of_below hb)⟩
      · rintro e w' ⟨te, pe, rfl, hE, hS⟩
        exact RAns.err hX hE hS (Nat.le_of_lt hlb)
end Go.Proofs.YtdnfhaojfdohdaaGreatDoor
