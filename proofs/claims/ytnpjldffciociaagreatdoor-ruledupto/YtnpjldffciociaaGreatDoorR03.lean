import Derived.Test.YtnpjldffciociaaGreatDoorR02
import Derived.Test.YtnpjldffciociaaGreatDoorB27
namespace Go.Proofs.YtnpjldffciociaaGreatDoor
open Go.RowKit

abbrev typesOf (ts : List (List UInt8 × List Bool)) (t : Nat) : List Bool := (ts.getD t ([], [])).2
def allowP (ts : List (List UInt8 × List Bool)) (ws : List (List UInt8)) : Bool :=
  match findT ts (wordAt ws 1) with
  | none => false
  | some t => condAt ts (typesOf ts t) true ws 2 (ws.length - 2)
def maskQ (ts : List (List UInt8 × List Bool)) (ws : List (List UInt8)) (t : Nat) : Option (Nat × Nat) :=
  match colRaw (wordAt ws 2) with
    | none => none
    | some c => match valKind (wordAt ws 3) with
      | none => none
      | some b => if (typesOf ts t)[c]? = some b ∧ condAt ts (typesOf ts t) true ws 4 (ws.length - 4) = true then some (t, c) else none
def maskP (ts : List (List UInt8 × List Bool)) (ws : List (List UInt8)) : Option (Nat × Nat) :=
  match findT ts (wordAt ws 1) with
  | none => none
  | some t => maskQ ts ws t
/-- What a rule changes. -/
def StepR (B : Nat) (rs rs' : Nat → Rl) (o : Option (Nat × Nat)) : Prop :=
  (∀ i, (rs' i).na ≤ (rs i).na + 1) ∧ (∀ i, (rs' i).wd.size ≤ (rs i).wd.size + B) ∧ match o with
    | none => ∀ i, (rs' i).ms = (rs i).ms
    | some (t, c) => ∃ m : MRow, m.c = c ∧ (rs' t).ms = (rs t).ms ++ [m] ∧ ∀ i, i ≠ t → (rs' i).ms = (rs i).ms
/-- What a rule does: none: it is none; an allow; a mask. -/
def RAns (B : Nat) (w0 : World) (lb n : Nat) (rs : Nat → Rl) (o : Option (Option (Nat × Nat))) (errno : Int) (e : Ending) (w' : World) : Prop :=
  (match o with
    | none => ∃ te pe, e = .returned (.iface te pe) ∧ Err w' errno (.iface te pe)
    | some q => e = .returned .nilIface ∧ ∃ rs', LawAt w' lb n rs' ∧ StepR B rs rs' q) ∧ Kp lb w0 w'
/-- What the reader of a rule has at hand. -/
structure Hand (w0 : World) (vs : Value) (ts : List (List UInt8 × List Bool)) (lb : Nat) (rs : Nat → Rl) : Prop where
  glob : Glob w0
  tabs : ReadsTabs tcode w0 vs ts
  few : ts.length ≤ 1048577
  narrow : ∀ t, (typesOf ts t).length ≤ 9
  named : ∀ t ∈ ts, t.1 ≠ []
  law : LawAt w0 lb ts.length rs
  na : ∀ i, (rs i).na ≤ 1000
  nm : ∀ i, (rs i).ms.length ≤ 1000
theorem Stp.from {w0 w w' : World} {vs vw : Value} {ws : List (List UInt8)} {taken : Nat} {errno : Int} {rule : Bool} (h : Stp w0.heap.size w w') (hX : RX w0 w vs vw ws taken errno rule) : Below w0.heap.size w0 w' := hX.bel.trans (h.below (Nat.le_of_lt hX.rd.lt))
theorem findT_word {ts : List (List UInt8 × List Bool)} {ws : List (List UInt8)} {i t : Nat} (hn : ∀ t ∈ ts, t.1 ≠ []) (h : findT ts (wordAt ws i) = some t) : i < ws.length ∧ t < ts.length := by
  have hlt := findT_lt h
  refine ⟨word_lt fun e => ?_, hlt⟩
  unfold findT at h
  rw [List.findIdx?_eq_some_iff_getElem] at h
  obtain ⟨h1, h2, _⟩ := h
  rw [e] at h2
  exact hn ts[t] (List.getElem_mem h1) (by simpa using h2)
theorem RAns.err {B : Nat} {w0 w w' : World} {vs vw : Value} {ws : List (List UInt8)} {taken lb n : Nat} {errno : Int} {rule : Bool} {rs : Nat → Rl} {te : TypeId} {pe : Value} (hX : RX w0 w vs vw ws taken errno rule) (hE : Err w' errno (.iface te pe)) (hS : Stp w0.heap.size w w') (hlb : lb ≤ w0.heap.size) :
    RAns B w0 lb n rs none errno (.returned (.iface te pe)) w' := ⟨⟨te, pe, rfl, hE⟩, Kp.of_below (hS.from hX) hlb⟩
theorem step_allow (rs : Nat → Rl) (t : Nat) (av : Value) (us : List Value) : StepR 0 rs (updR rs t { rs t with av := av, na := (rs t).na + 1, xs := (rs t).xs ++ us }) none := by
  refine ⟨fun i => ?_, fun i => ?_, fun i => ?_⟩ <;> by_cases hi : i = t
  · subst hi; rw [updR_at]; exact Nat.le_refl _
  · rw [updR_ne _ _ _ hi]; omega
  · subst hi; rw [updR_at]; exact Nat.le_refl _
  · rw [updR_ne _ _ _ hi]; omega
  · subst hi; rw [updR_at]
  · rw [updR_ne _ _ _ hi]
theorem step_mask (rs : Nat → Rl) (t : Nat) (mv : Value) (m : MRow) : StepR 0 rs (updR rs t { rs t with mv := mv, ms := (rs t).ms ++ [m] }) (some (t, m.c)) := by
  refine ⟨fun i => ?_, fun i => ?_, m, rfl, by rw [updR_at], fun i hi => by rw [updR_ne _ _ _ hi]⟩ <;> by_cases hi : i = t
  · subst hi; rw [updR_at]; show (rs i).na ≤ _; omega
  · rw [updR_ne _ _ _ hi]; omega
  · subst hi; rw [updR_at]; exact Nat.le_refl _
  · rw [updR_ne _ _ _ hi]; omega

theorem xallow (w0 w : World) (vs vw tv : Value) (ts : List (List UInt8 × List Bool)) (ws : List (List UInt8)) (errno : Int) (lb t : Nat) (rs : Nat → Rl) (H : Hand w0 vs ts lb rs) (hX : RX w0 w vs vw ws 2 errno true) (htl : t < ts.length) (hw2 : 2 ≤ ws.length) (hrd : Reads w0 tv ((typesOf ts t).map tcode)) :
    Calls Tryz.prog 157 #[.pointer (some ⟨w0.heap.size, 0, none⟩), .pointer (some ⟨lb, t * 3, none⟩), tv] w fun e w' => RAns 0 w0 lb ts.length rs (match condAt ts (typesOf ts t) true ws 2 (ws.length - 2) with
      | true => some none
      | false => none) errno e w' := by
  have hlb : lb < w0.heap.size := H.law.lt
  obtain ⟨ta, tc, htv, _⟩ := id hrd
  have h2 := xlast w0 w vs vw tv ts (typesOf ts t) ws 2 errno true H.glob H.tabs H.few H.narrow hrd (H.narrow t) hX hw2
  rw [htv] at h2 ⊢
  cases hok : condAt ts (typesOf ts t) true ws 2 (ws.length - 2) with
  | false =>
    rw [hok] at h2
    refine (pallow_last _ lb (t * 3) ta _ tc w (fun v w' => Err w' errno v ∧ Stp w0.heap.size w w') (h2.mono ?_)).mono ?_
    · rintro e w' ⟨hA, hS⟩
      obtain ⟨p, te, pe, rfl, hE⟩ : ∃ p te pe, e = .returned (.tuple #[.pointer p, .iface te pe]) ∧ Err w' errno (.iface te pe) := by simpa using hA
      exact ⟨p, te, pe, rfl, hE, hS⟩
    · rintro e w' ⟨te, pe, rfl, hE, hS⟩
      exact RAns.err hX hE hS (Nat.le_of_lt hlb)
  | true =>
    rw [hok] at h2
    refine (pallow_yes _ lb ts.length t rs htl ta _ tc w (fun w' => Below w0.heap.size w0 w') (H.na t) (h2.mono ?_)).mono ?_
    · rintro e w' ⟨hA, hS⟩
      have hB := hS.from hX
      exact ⟨by simpa using hA, H.law.below hB, hB⟩
    · rintro e w' ⟨rfl, w2, av', us, hB, hL, hb⟩
      exact ⟨⟨rfl, _, hL, step_allow rs t av' us⟩, (Kp.of_below hB (Nat.le_of_lt hlb)).trans hb⟩

theorem xmask (w0 w : World) (vs vw tv : Value) (ts : List (List UInt8 × List Bool)) (ws : List (List UInt8)) (errno : Int) (lb t : Nat) (rs : Nat → Rl) (H : Hand w0 vs ts lb rs) (hX : RX w0 w vs vw ws 2 errno true) (htl : t < ts.length) (hrd : Reads w0 tv ((typesOf ts t).map tcode)) :
    Calls Tryz.prog 158 #[.pointer (some ⟨w0.heap.size, 0, none⟩), .pointer (some ⟨lb, t * 3, none⟩), tv] w fun e w' => RAns 0 w0 lb ts.length rs (match maskQ ts ws t with
      | none => none
      | some (t, c) => if hasMask (rs t).ms c then none else some (some (t, c))) errno e w' := by
  have hlb : lb < w0.heap.size := H.law.lt
  obtain ⟨ta, tc, htv, _⟩ := id hrd
  have h2 := xcolumn w0 w vs vw ws 2 errno true hX (by omega)
  unfold maskQ
  cases hc : colRaw (wordAt ws 2) with
  | none =>
    rw [hc] at h2
    rw [htv]
    refine (pmask_col _ lb (t * 3) ta _ tc w (fun v w' => Err w' errno v ∧ Stp w0.heap.size w w') (h2.mono ?_)).mono ?_
    · rintro e w' ⟨⟨te, pe, rfl, hE⟩, _, hS⟩; exact ⟨te, pe, rfl, hE, hS⟩
    · rintro e w' ⟨te, pe, rfl, hE, hS⟩
      exact RAns.err hX hE hS (Nat.le_of_lt hlb)
  | some c =>
    rw [hc] at h2
    have hc9 : c < 9 := colRaw_ok hc
    have h2' : Calls Tryz.prog 210 #[.pointer (some ⟨w0.heap.size, 0, none⟩)] w fun e w' => e = .returned (.tuple #[.int .i64 c, .nilIface]) ∧ RX w0 w' vs vw ws 3 errno true ∧ Stp w0.heap.size w w' :=
      h2.mono fun e w' ⟨he, hX', hS⟩ => ⟨he, hX', hS⟩
    have h3 : ∀ w1, (RX w0 w1 vs vw ws 3 errno true ∧ Stp w0.heap.size w w1) → Calls Tryz.prog 156 #[.pointer (some ⟨w0.heap.size, 0, none⟩)] w1 fun e w' => e = .returned (.string (bs (wordAt ws 3))) ∧ RX w0 w' vs vw ws 4 errno true ∧ Stp w0.heap.size w w' :=
      fun w1 hP => (xword w0 w1 vs vw ws 3 errno true hP.1 (by omega)).mono fun e w' ⟨he, hX', hS⟩ => ⟨he, hX', hP.2.trans hS⟩
    have h4 := fun w1 (hP : RX w0 w1 vs vw ws 4 errno true ∧ Stp w0.heap.size w w1) => xvalue w0 w1 vs vw ws 4 errno true hP.1 (wordAt ws 3) (hX.word_len _) (H.glob.kept hP.1.bel)
    simp only
    cases hv : valKind (wordAt ws 3) with
    | none =>
      rw [hv] at h4
      rw [htv]
      refine (pmask_val _ lb (t * 3) c ta _ tc _ w _ _ (fun v w' => Err w' errno v ∧ Stp w0.heap.size w w') h2' h3 fun w1 hP => (h4 w1 hP).mono ?_).mono ?_
      · rintro e w' ⟨⟨te, pe, rfl, hE⟩, hb⟩; exact ⟨te, pe, rfl, hE, hP.2.trans (Stp.of_below hb)⟩
      · rintro e w' ⟨te, pe, w1, rfl, ⟨hE, hS⟩, hb⟩
        exact RAns.err hX (hE.kept hb) (hS.trans (Stp.of_below hb)) (Nat.le_of_lt hlb)
    | some b =>
      rw [hv] at h4
      have hw3 := valKind_lt hv
      have h4' : ∀ w1, (RX w0 w1 vs vw ws 4 errno true ∧ Stp w0.heap.size w w1) → Calls Tryz.prog 211 #[.pointer (some ⟨w0.heap.size, 0, none⟩), .string (bs (wordAt ws 3))] w1 fun e w' => (∃ n S, e = .returned (.tuple #[.agg #[.int .i64 (tnum b), .int .i64 n, .string S], .nilIface])) ∧ RX w0 w' vs vw ws 4 errno true ∧ Stp w0.heap.size w w' :=
        fun w1 hP => (h4 w1 hP).mono fun e w' ⟨he, hb⟩ => ⟨he, hP.1.below hb, hP.2.trans (Stp.of_below hb)⟩
      have hll : (typesOf ts t).length ≤ 1048577 := Nat.le_trans (H.narrow t) (by decide)
      have hS : ∀ (w4 W : World), (RX w0 w4 vs vw ws 4 errno true ∧ Stp w0.heap.size w w4) → Below w4.heap.size w4 W →
          ∀ m, Calls Tryz.prog 212 #[tv, .int .i64 c] (W.drewN m) fun e w' => e = .returned (.int .i64 (typeNum (typesOf ts t) c)) ∧ w' = W.drewN m := by
        intro w4 W hP hb m
        exact ptypeAt_any (W.drewN m) tv (typesOf ts t) c (hrd.below (belowN (hP.1.below hb).bel m)) hll (by omega)
      have hF : ∀ (w4 W : World) (s : ByteArray), (RX w0 w4 vs vw ws 4 errno true ∧ Stp w0.heap.size w w4) → Below w4.heap.size w4 W → Calls Tryz.prog 98 #[.pointer (some ⟨w0.heap.size, 0, none⟩), .string s] W fun e w' => ∃ te pe, e = .returned (.iface te pe) ∧ (Err w' errno (.iface te pe) ∧ Stp w0.heap.size w w') := by
        intro w4 W s hP hb
        refine (pfault_any W w0.heap.size errno s (hP.1.below hb).rd.c3).mono ?_
        rintro e w' ⟨rfl, rfl⟩
        exact ⟨_, _, rfl, Err.new _ _ _, (hP.2.trans (Stp.of_below hb)).trans (Stp.of_below ((Below.refl _ _).alloc (Nat.le_refl _) _))⟩
      have hK := fun (w4 W : World) (hP : RX w0 w4 vs vw ws 4 errno true ∧ Stp w0.heap.size w w4) (hb : Below w4.heap.size w4 W) => by
        have hL := H.law.below (hP.1.below hb).bel
        exact pmasked W (lb + 1) lb (t * 3) c (rs t).mv (rs t).ms (hL.blk.cells htl).2.2 hL.lt (hL.mrow t htl) (H.nm t)
      have hLst := fun (w4 W : World) (hP : RX w0 w4 vs vw ws 4 errno true ∧ Stp w0.heap.size w w4) (hb : Below w4.heap.size w4 W) => xlast w0 W vs vw tv ts (typesOf ts t) ws 4 errno true H.glob H.tabs H.few H.narrow hrd (H.narrow t) (hP.1.below hb) (by omega)
      have hty : decide (typeNum (typesOf ts t) c = tnum b) = ((typesOf ts t)[c]? == some b) := type_val _ _ _
      rw [htv] at hS hLst ⊢
      simp only
      by_cases hT : (typesOf ts t)[c]? = some b
      · have hTn : typeNum (typesOf ts t) c = tnum b := by
          have : ((typesOf ts t)[c]? == some b) = true := by simpa using hT
          rw [this] at hty; simpa using hty
        rw [hTn] at hS
        cases hok : condAt ts (typesOf ts t) true ws 4 (ws.length - 4) with
        | false =>
          simp only [hT, Bool.false_eq_true, and_false, if_false]
          cases hdup : hasMask (rs t).ms c with
          | true =>
            rw [hdup] at hK
            refine (pmask_dup _ lb (t * 3) c ta _ tc _ _ w _ _ _ (fun v w' => Err w' errno v ∧ Stp w0.heap.size w w') h2' h3 h4' hS hK hF).mono ?_
            rintro e w' ⟨te, pe, rfl, hE, hS'⟩
            exact RAns.err hX hE hS' (Nat.le_of_lt hlb)
          | false =>
            rw [hdup] at hK
            refine (pmask_last _ lb (t * 3) c ta _ tc _ _ w _ _ _ (fun v w' => Err w' errno v ∧ Stp w0.heap.size w w') h2' h3 h4' hS hK fun w4 W hP hb => (hLst w4 W hP hb).mono ?_).mono ?_
            · rintro e w' ⟨hA, hS'⟩
              rw [hok] at hA
              obtain ⟨p, te, pe, rfl, hE⟩ : ∃ p te pe, e = .returned (.tuple #[.pointer p, .iface te pe]) ∧ Err w' errno (.iface te pe) := by simpa using hA
              exact ⟨p, te, pe, rfl, hE, (hP.2.trans (Stp.of_below hb)).trans hS'⟩
            · rintro e w' ⟨te, pe, rfl, hE, hS'⟩
              exact RAns.err hX hE hS' (Nat.le_of_lt hlb)
        | true =>
          simp only [hT, true_and, if_true]
          cases hdup : hasMask (rs t).ms c with
          | true =>
            rw [hdup] at hK
            refine (pmask_dup _ lb (t * 3) c ta _ tc _ _ w _ _ _ (fun v w' => Err w' errno v ∧ Stp w0.heap.size w w') h2' h3 h4' hS hK hF).mono ?_
            rintro e w' ⟨te, pe, rfl, hE, hS'⟩
            exact RAns.err hX hE hS' (Nat.le_of_lt hlb)
          | false =>
            rw [hdup] at hK
            refine (pmask_yes ts.length t rs htl (H.nm t) (fun w' => Below w0.heap.size w0 w') _ lb c ta _ tc _ _ w _ _ _ (fun w4 hP => hP.1.rd.lt) h2' h3 h4' hS hK fun w4 W hP hb => (hLst w4 W hP hb).mono ?_).mono ?_
            · rintro e w' ⟨hA, hS'⟩
              rw [hok] at hA
              have hB := ((hP.2.trans (Stp.of_below hb)).trans hS').from hX
              exact ⟨by simpa using hA, H.law.below hB, hS', hB⟩
            · rintro e w' ⟨rfl, w2, mv', m, hB, hmc, hL, hb⟩
              refine ⟨⟨rfl, _, hL, ?_⟩, (Kp.of_below hB (Nat.le_of_lt hlb)).trans hb⟩
              have := step_mask rs t mv' m
              rw [hmc] at this
              exact this
      · have hTn : typeNum (typesOf ts t) c ≠ tnum b := by
          have : ((typesOf ts t)[c]? == some b) = false := by simpa using hT
          rw [this] at hty; simpa using hty
        simp only [hT, false_and, if_false]
        refine (pmask_type _ lb (t * 3) c ta _ tc _ _ _ hTn w _ _ _ (fun v w' => Err w' errno v ∧ Stp w0.heap.size w w') h2' h3 h4' hS hF).mono ?_
        rintro e w' ⟨te, pe, rfl, hE, hS'⟩
        exact RAns.err hX hE hS' (Nat.le_of_lt hlb)
end Go.Proofs.YtnpjldffciociaaGreatDoor
namespace Go.Proofs.YtnpjldffciociaaGreatDoor
open Go.RowKit

abbrev wAllow : List UInt8 := [97, 108, 108, 111, 119]
abbrev wMask : List UInt8 := [109, 97, 115, 107]

set_option maxRecDepth 10000 in
set_option maxHeartbeats 2000000 in
theorem prule_allow (rb lb n t wb wn sb soff sn scap : Nat) (ta : Option Addr) (tn tc : Nat) (old : ByteArray) (hold : old.size ≤ 70000000000000) (w : World) (P P1 P2 : World → Prop) (R : Value → World → Prop) (ht : t < n) (_hn : n ≤ 1048577) (hts : t < sn) (_hsn : sn ≤ 1048577) (hne1 : ¬ rb = lb) (hne2 : ¬ sb = lb) (hd : ∀ w1, P1 w1 → P1 w1.drew)
    (hw : Calls Tryz.prog 156 #[.pointer (some ⟨rb, 0, none⟩)] w fun e w' => e = .returned (.string (bs wAllow)) ∧ P w')
    (hta : ∀ w1, P w1 → Calls Tryz.prog 160 #[.pointer (some ⟨rb, 0, none⟩)] w1 fun e w' => e = .returned (.tuple #[.int .i64 t, .nilIface]) ∧ w'.cell? ⟨rb, 1, none⟩ = some (.slice (some ⟨wb, 0, none⟩) wn wn) ∧ w'.cell? ⟨lb, t * 3, none⟩ = some (.string old) ∧ P1 w')
    (hj : ∀ w1, P1 w1 → Calls Tryz.prog 102 #[.slice (some ⟨wb, 0, none⟩) wn wn, .string ⟨#[32]⟩] w1 fun e w' => ∃ S : ByteArray, e = .returned (.string S) ∧ w'.cell? ⟨lb, t * 3, none⟩ = some (.string old) ∧ w'.frozen? ⟨lb, t * 3, none⟩ = false ∧ w'.cell? ⟨rb, 0, none⟩ = some (.slice (some ⟨sb, soff, none⟩) sn scap) ∧ w'.cell? ⟨sb, soff + t * 2 + 1, none⟩ = some (.slice ta tn tc) ∧ S.size ≤ 1100000000000 ∧ P2 w')
    (hr : ∀ w1 S, P2 w1 → S.size ≤ old.size + 1100000000001 → Calls Tryz.prog 157 #[.pointer (some ⟨rb, 0, none⟩), .pointer (some ⟨lb, t * 3, none⟩), .slice ta tn tc] (w1.setCell ⟨lb, t * 3, none⟩ (.string S)).drew fun e w' => ∃ v, e = .returned v ∧ R v w') :
    Calls Tryz.prog 109 #[.pointer (some ⟨rb, 0, none⟩), .slice (some ⟨lb, 0, none⟩) n n] w fun e w' => ∃ v, e = .returned v ∧ R v w' := by
  have hbs := bs_toList2
  have e59 : (⟨#[59]⟩ : ByteArray).size = 1 := rfl
  have hi : 0 ≤ (t : Int) ∧ (t : Int) < n := by omega
  have hi2 : 0 ≤ (t : Int) ∧ (t : Int) < sn := by omega
  have hmf : ∀ (fn : Fn) (first cap : Array Value) (w : World), (Instr.makeFunc fn first cap).run Tryz.prog w = .ok (.func fn first cap) w := fun _ _ _ _ => rfl
  go_enter Tryz.func109, Tryz.ntmps109
  go_wp2_with (first
    | (go_at_call 156; refine hw.mono ?_; rintro e w1 ⟨rfl, hP⟩)
    | (go_at_call 160; refine (hta _ hP).mono ?_; rintro e w2 ⟨rfl, k1, k2, hP1⟩))
  go_region_with (go_at_call 102; refine (hj _ (hd _ hP1)).mono ?_; rintro e w3 ⟨S, rfl, q1, q2, q3, q4, hB, hP2⟩)
  all_goals have hsz : (old ++ (S ++ ⟨#[59]⟩)).size ≤ old.size + 1100000000001 := by rw [ByteArray.size_append, ByteArray.size_append, e59]; omega
  all_goals have hr' := hr w3 _ hP2 hsz
  all_goals clear hd hw hta hj hr hP hP1 hP2 hsz
  all_goals go_wp2
  all_goals go_region_with (go_at_call 157; refine hr'.mono ?_; rintro e w4 ⟨v, rfl, hR⟩)
  all_goals go_wp2
  all_goals go_ret
  all_goals exact ⟨v, rfl, hR⟩
set_option maxRecDepth 10000 in
set_option maxHeartbeats 1000000 in
theorem prule_allow_no (rb lb n : Nat) (w : World) (P : World → Prop) (R : Value → World → Prop)
    (hw : Calls Tryz.prog 156 #[.pointer (some ⟨rb, 0, none⟩)] w fun e w' => e = .returned (.string (bs wAllow)) ∧ P w')
    (hta : ∀ w1, P w1 → Calls Tryz.prog 160 #[.pointer (some ⟨rb, 0, none⟩)] w1 fun e w' => ∃ te pe, e = .returned (.tuple #[.int .i64 0, .iface te pe]) ∧ R (.iface te pe) w') :
    Calls Tryz.prog 109 #[.pointer (some ⟨rb, 0, none⟩), .slice (some ⟨lb, 0, none⟩) n n] w fun e w' => ∃ te pe, e = .returned (.iface te pe) ∧ R (.iface te pe) w' := by
  have hbs := bs_toList2
  have hmf : ∀ (fn : Fn) (first cap : Array Value) (w : World), (Instr.makeFunc fn first cap).run Tryz.prog w = .ok (.func fn first cap) w := fun _ _ _ _ => rfl
  go_enter Tryz.func109, Tryz.ntmps109
  go_wp2_with (first
    | (go_at_call 156; refine hw.mono ?_; rintro e w1 ⟨rfl, hP⟩)
    | (go_at_call 160; refine (hta _ hP).mono ?_; rintro e w2 ⟨te, pe, rfl, hR⟩))
  go_ret
  exact ⟨te, pe, rfl, hR⟩
set_option maxRecDepth 10000 in
set_option maxHeartbeats 2000000 in
theorem prule_mask (rb lb n t wb wn sb soff sn scap : Nat) (ta : Option Addr) (tn tc : Nat) (old : ByteArray) (hold : old.size ≤ 70000000000000) (w : World) (P P1 P2 : World → Prop) (R : Value → World → Prop) (ht : t < n) (_hn : n ≤ 1048577) (hts : t < sn) (_hsn : sn ≤ 1048577) (hne1 : ¬ rb = lb) (hne2 : ¬ sb = lb) (hd : ∀ w1, P1 w1 → P1 w1.drew)
    (hw : Calls Tryz.prog 156 #[.pointer (some ⟨rb, 0, none⟩)] w fun e w' => e = .returned (.string (bs wMask)) ∧ P w')
    (hta : ∀ w1, P w1 → Calls Tryz.prog 160 #[.pointer (some ⟨rb, 0, none⟩)] w1 fun e w' => e = .returned (.tuple #[.int .i64 t, .nilIface]) ∧ w'.cell? ⟨rb, 1, none⟩ = some (.slice (some ⟨wb, 0, none⟩) wn wn) ∧ w'.cell? ⟨lb, t * 3, none⟩ = some (.string old) ∧ P1 w')
    (hj : ∀ w1, P1 w1 → Calls Tryz.prog 102 #[.slice (some ⟨wb, 0, none⟩) wn wn, .string ⟨#[32]⟩] w1 fun e w' => ∃ S : ByteArray, e = .returned (.string S) ∧ w'.cell? ⟨lb, t * 3, none⟩ = some (.string old) ∧ w'.frozen? ⟨lb, t * 3, none⟩ = false ∧ w'.cell? ⟨rb, 0, none⟩ = some (.slice (some ⟨sb, soff, none⟩) sn scap) ∧ w'.cell? ⟨sb, soff + t * 2 + 1, none⟩ = some (.slice ta tn tc) ∧ S.size ≤ 1100000000000 ∧ P2 w')
    (hr : ∀ w1 S, P2 w1 → S.size ≤ old.size + 1100000000001 → Calls Tryz.prog 158 #[.pointer (some ⟨rb, 0, none⟩), .pointer (some ⟨lb, t * 3, none⟩), .slice ta tn tc] (w1.setCell ⟨lb, t * 3, none⟩ (.string S)).drew fun e w' => ∃ v, e = .returned v ∧ R v w') :
    Calls Tryz.prog 109 #[.pointer (some ⟨rb, 0, none⟩), .slice (some ⟨lb, 0, none⟩) n n] w fun e w' => ∃ v, e = .returned v ∧ R v w' := by
  have hbs := bs_toList2
  have e59 : (⟨#[59]⟩ : ByteArray).size = 1 := rfl
  have hi : 0 ≤ (t : Int) ∧ (t : Int) < n := by omega
  have hi2 : 0 ≤ (t : Int) ∧ (t : Int) < sn := by omega
  have hmf : ∀ (fn : Fn) (first cap : Array Value) (w : World), (Instr.makeFunc fn first cap).run Tryz.prog w = .ok (.func fn first cap) w := fun _ _ _ _ => rfl
  go_enter Tryz.func109, Tryz.ntmps109
  go_wp2_with (first
    | (go_at_call 156; refine hw.mono ?_; rintro e w1 ⟨rfl, hP⟩)
    | (go_at_call 160; refine (hta _ hP).mono ?_; rintro e w2 ⟨rfl, k1, k2, hP1⟩))
  go_region_with (go_at_call 102; refine (hj _ (hd _ hP1)).mono ?_; rintro e w3 ⟨S, rfl, q1, q2, q3, q4, hB, hP2⟩)
  all_goals have hsz : (old ++ (S ++ ⟨#[59]⟩)).size ≤ old.size + 1100000000001 := by rw [ByteArray.size_append, ByteArray.size_append, e59]; omega
  all_goals have hr' := hr w3 _ hP2 hsz
  all_goals clear hd hw hta hj hr hP hP1 hP2 hsz
  all_goals go_wp2
  all_goals go_region_with (go_at_call 158; refine hr'.mono ?_; rintro e w4 ⟨v, rfl, hR⟩)
  all_goals go_wp2
  all_goals go_ret
  all_goals exact ⟨v, rfl, hR⟩
set_option maxRecDepth 10000 in
set_option maxHeartbeats 1000000 in
theorem prule_mask_no (rb lb n : Nat) (w : World) (P : World → Prop) (R : Value → World → Prop)
    (hw : Calls Tryz.prog 156 #[.pointer (some ⟨rb, 0, none⟩)] w fun e w' => e = .returned (.string (bs wMask)) ∧ P w')
    (hta : ∀ w1, P w1 → Calls Tryz.prog 160 #[.pointer (some ⟨rb, 0, none⟩)] w1 fun e w' => ∃ te pe, e = .returned (.tuple #[.int .i64 0, .iface te pe]) ∧ R (.iface te pe) w') :
    Calls Tryz.prog 109 #[.pointer (some ⟨rb, 0, none⟩), .slice (some ⟨lb, 0, none⟩) n n] w fun e w' => ∃ te pe, e = .returned (.iface te pe) ∧ R (.iface te pe) w' := by
  have hbs := bs_toList2
  have hmf : ∀ (fn : Fn) (first cap : Array Value) (w : World), (Instr.makeFunc fn first cap).run Tryz.prog w = .ok (.func fn first cap) w := fun _ _ _ _ => rfl
  go_enter Tryz.func109, Tryz.ntmps109
  go_wp2_with (first
    | (go_at_call 156; refine hw.mono ?_; rintro e w1 ⟨rfl, hP⟩)
    | (go_at_call 160; refine (hta _ hP).mono ?_; rintro e w2 ⟨te, pe, rfl, hR⟩))
  go_ret
  exact ⟨te, pe, rfl, hR⟩
set_option maxRecDepth 10000 in
set_option maxHeartbeats 1000000 in
theorem prule_none (rb lb n : Nat) (x : List UInt8) (w : World) (P : World → Prop) (R : Value → World → Prop) (h1 : (x == wAllow) = false) (h2 : (x == wMask) = false)
    (hw : Calls Tryz.prog 156 #[.pointer (some ⟨rb, 0, none⟩)] w fun e w' => e = .returned (.string (bs x)) ∧ P w')
    (hr : ∀ w1 s, P w1 → Calls Tryz.prog 159 #[.pointer (some ⟨rb, 0, none⟩), .string s] w1 fun e w' => ∃ te pe, e = .returned (.iface te pe) ∧ R (.iface te pe) w') :
    Calls Tryz.prog 109 #[.pointer (some ⟨rb, 0, none⟩), .slice (some ⟨lb, 0, none⟩) n n] w fun e w' => ∃ te pe, e = .returned (.iface te pe) ∧ R (.iface te pe) w' := by
  have hbs := bs_toList2
  go_enter Tryz.func109, Tryz.ntmps109
  go_wp2_with (first
    | (go_at_call 156; refine hw.mono ?_; rintro e w1 ⟨rfl, hP⟩)
    | (go_at_call 159; refine (hr _ _ hP).mono ?_; rintro e w2 ⟨te, pe, rfl, hR⟩))
  go_ret
  exact ⟨te, pe, rfl, hR⟩
/-- What a rule is: none; an allow; a mask. -/
def ruleP (ts : List (List UInt8 × List Bool)) (rs : Nat → Rl) (ws : List (List UInt8)) : Option (Option (Nat × Nat)) :=
  if wordAt ws 0 = wAllow then match allowP ts ws with
    | true => some none
    | false => none
  else if wordAt ws 0 = wMask then match maskP ts ws with
    | none => none
    | some (t, c) => if hasMask (rs t).ms c then none else some (some (t, c))
  else none
theorem RAns.form {B : Nat} {w0 : World} {lb n : Nat} {rs : Nat → Rl} {o : Option (Option (Nat × Nat))} {errno : Int} {e : Ending} {w' : World} (h : RAns B w0 lb n rs o errno e w') : ∃ v, e = .returned v := by
  obtain ⟨h, _⟩ := h
  match o, h with
  | none, ⟨te, pe, he, _⟩ => exact ⟨_, he⟩
  | some q, ⟨he, _⟩ => exact ⟨_, he⟩
/-- The law's block turned in both worlds. -/
theorem below_set {B : Nat} {w0 w : World} (h : Below B w0 w) (p : Addr) (v : Value) : Below B (w0.setCell p v) (w.setCell p v) := by
  refine ⟨h.os, h.tape, h.output, by simpa [World.setCell] using h.size, fun k hk => ?_⟩
  have hb := h.block k hk
  by_cases hp : k = p.block
  · subst hp
    simp only [World.setCell, Array.getElem?_modify, hb]
  · rw [Below.heap_setCell _ _ _ _ hp, Below.heap_setCell _ _ _ _ hp, hb]
theorem RX.set {w0 w : World} {vs vw : Value} {ws : List (List UInt8)} {taken : Nat} {errno : Int} {rule : Bool} {lb wb cap : Nat} (h : RX w0 w vs vw ws taken errno rule) (hlb : lb < w0.heap.size) (hvw : vw = .slice (some ⟨wb, 0, none⟩) ws.length cap) (hwb : wb ≠ lb) (k : Nat) (v : Value) :
    RX (w0.setCell ⟨lb, k, none⟩ v) (w.setCell ⟨lb, k, none⟩ v) vs vw ws taken errno rule := by
  have hz : (w0.setCell ⟨lb, k, none⟩ v).heap.size = w0.heap.size := by simp [World.setCell]
  have hz1 : (w.setCell ⟨lb, k, none⟩ v).heap.size = w.heap.size := by simp [World.setCell]
  have hbk : (w.setCell ⟨lb, k, none⟩ v).heap[w0.heap.size]? = w.heap[w0.heap.size]? := Below.heap_setCell _ _ _ _ (by simp; omega)
  have hc : ∀ j, (w.setCell ⟨lb, k, none⟩ v).cell? ⟨w0.heap.size, j, none⟩ = w.cell? ⟨w0.heap.size, j, none⟩ := fun j => World.cell?_of_block (a := ⟨w0.heap.size, j, none⟩) hbk
  refine ⟨?_, ?_, ?_, h.len, h.short⟩
  · rw [hz]
    exact ⟨(hc 0).trans h.rd.c0, (hc 1).trans h.rd.c1, (hc 2).trans h.rd.c2, (hc 3).trans h.rd.c3, (hc 4).trans h.rd.c4, (World.frozen?_of_block (a := ⟨w0.heap.size, 2, none⟩) hbk).trans h.rd.fz, by rw [hz1]; exact h.rd.lt⟩
  · rw [hz]; exact below_set h.bel _ _
  · rw [hz]
    obtain ⟨a, cap', he, hr⟩ := h.reads
    refine ⟨a, cap', he, fun i u hu => ?_⟩
    obtain ⟨b, off, rfl, hne, hlt, hcell⟩ := hr i u hu
    have hbw : b = wb := by
      rw [hvw] at he
      simp at he
      exact he.1.1.symm
    refine ⟨b, off, rfl, hne, by rw [hz1]; exact hlt, (World.cell?_of_block (a := ⟨b, off + i, none⟩) (Below.heap_setCell _ _ _ _ ?_)).trans hcell⟩
    simp; omega
theorem StepR.wide {rs rs1 rs' : Nat → Rl} {o : Option (Nat × Nat)} {t : Nat} {S : ByteArray} {B : Nat} (e : rs1 = updR rs t { rs t with wd := S }) (hS : S.size ≤ (rs t).wd.size + B) (h : StepR 0 rs1 rs' o) : StepR B rs rs' o := by
  have hms : ∀ i, (rs1 i).ms = (rs i).ms := fun i => by
    subst e
    by_cases hi : i = t
    · subst hi; rw [updR_at]
    · rw [updR_ne _ _ _ hi]
  have hna : ∀ i, (rs1 i).na = (rs i).na := fun i => by
    subst e
    by_cases hi : i = t
    · subst hi; rw [updR_at]
    · rw [updR_ne _ _ _ hi]
  have hwd : ∀ i, (rs1 i).wd.size ≤ (rs i).wd.size + B := fun i => by
    subst e
    by_cases hi : i = t
    · subst hi; rw [updR_at]; exact hS
    · rw [updR_ne _ _ _ hi]; omega
  obtain ⟨h1, h2, h3⟩ := h
  refine ⟨fun i => by rw [← hna i]; exact h1 i, fun i => by have := h2 i; have := hwd i; omega, ?_⟩
  cases o with
  | none => exact fun i => (h3 i).trans (hms i)
  | some p =>
    obtain ⟨m, hm1, hm2, hm3⟩ := h3
    exact ⟨m, hm1, by rw [hm2, hms], fun i hi => (hm3 i hi).trans (hms i)⟩
/-- The tables of a schema. -/
structure TabsOk (ts : List (List UInt8 × List Bool)) : Prop where
  few : ts.length ≤ 1048577
  narrow : ∀ t, (typesOf ts t).length ≤ 9
  named : ∀ t ∈ ts, t.1 ≠ []
/-- What lies below the law. -/
structure Base (bw : World) (vs : Value) (ts : List (List UInt8 × List Bool)) : Prop where
  glob : Glob bw
  tabs : ReadsTabs tcode bw vs ts
  ok : TabsOk ts
/-- What the reader of a rule has at hand at its start. -/
structure Start (bw w0 : World) (vs vw : Value) (ts : List (List UInt8 × List Bool)) (ws : List (List UInt8)) (lb wb : Nat) (rs : Nat → Rl) : Prop where
  base : Base bw vs ts
  le : bw.heap.size ≤ lb
  bel : Below bw.heap.size bw w0
  law : LawAt w0 lb ts.length rs
  na : ∀ i, (rs i).na ≤ 1000
  nm : ∀ i, (rs i).ms.length ≤ 1000
  wd : ∀ i, (rs i).wd.size ≤ 70000000000000
  vw : vw = .slice (some ⟨wb, 0, none⟩) ws.length ws.length
  wb : wb ≠ lb
  ne : 1 ≤ ws.length
theorem Start.hand {bw w0 : World} {vs vw : Value} {ts : List (List UInt8 × List Bool)} {ws : List (List UInt8)} {lb wb t : Nat} {rs : Nat → Rl} (H : Start bw w0 vs vw ts ws lb wb rs) (ht : t < ts.length) (S : ByteArray) :
    Hand (w0.setCell ⟨lb, t * 3, none⟩ (.string S)) vs ts lb (updR rs t { rs t with wd := S }) := by
  have hb : Below bw.heap.size bw (w0.setCell ⟨lb, t * 3, none⟩ (.string S)) := H.bel.setCell (p := ⟨lb, t * 3, none⟩) H.le _
  refine ⟨H.base.glob.kept hb, H.base.tabs.below hb, H.base.ok.few, H.base.ok.narrow, H.base.ok.named, H.law.words ht S, fun i => ?_, fun i => ?_⟩ <;> by_cases hi : i = t
  · subst hi; rw [updR_at]; exact H.na i
  · rw [updR_ne _ _ _ hi]; exact H.na i
  · subst hi; rw [updR_at]; exact H.nm i
  · rw [updR_ne _ _ _ hi]; exact H.nm i
theorem RAns.wide {w0 w1 w' : World} {lb n t B : Nat} {rs : Nat → Rl} {S : ByteArray} {o : Option (Option (Nat × Nat))} {errno : Int} {e : Ending} (h : RAns 0 w1 lb n (updR rs t { rs t with wd := S }) o errno e w') (hS : S.size ≤ (rs t).wd.size + B) (hk : Kp lb w0 w1) : RAns B w0 lb n rs o errno e w' := by
  refine ⟨?_, hk.trans h.2⟩
  cases o with
  | none => exact h.1
  | some q =>
    obtain ⟨he, rs', hL, hs⟩ := h.1
    exact ⟨he, rs', hL, hs.wide rfl hS⟩
theorem RAns.calls {f : Nat} {args : Array Value} {w w0 : World} {B lb n : Nat} {rs : Nat → Rl} {o : Option (Option (Nat × Nat))} {errno : Int} (h : Calls Tryz.prog f args w fun e w' => RAns B w0 lb n rs o errno e w') : Calls Tryz.prog f args w fun e w' => ∃ v, e = .returned v ∧ RAns B w0 lb n rs o errno (.returned v) w' :=
  h.mono fun e w' h => by obtain ⟨v, rfl⟩ := h.form; exact ⟨v, rfl, h⟩
end Go.Proofs.YtnpjldffciociaaGreatDoor
