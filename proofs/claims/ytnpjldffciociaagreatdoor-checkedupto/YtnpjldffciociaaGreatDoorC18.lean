import Derived.Test.YtnpjldffciociaaGreatDoorC16
import Derived.Test.YtnpjldffciociaaGreatDoorC17
import Derived.Test.YtnpjldffciociaaGreatDoorC12
import Derived.Test.YtnpjldffciociaaGreatDoorB27
import Derived.Test.YtnpjldffciociaaGreatDoorC09
namespace Go.Proofs.YtnpjldffciociaaGreatDoor
open Go.RowKit

theorem typeNum_some {a : List Bool} {c : Nat} {x : Bool} (h : a[c]? = some x) : typeNum a c = tnum x := by unfold typeNum; rw [h]
theorem typeNum_none {a : List Bool} {c : Nat} (h : a[c]? = none) : typeNum a c = 0 := by unfold typeNum; rw [h]
theorem typesAt_some (a : List Bool) : ∀ (cs : List Nat) (t : List Bool), typesAt a cs = some t → cs.map (typeNum a) = t.map tnum ∧ t.length = cs.length := by
  intro cs
  induction cs with
  | nil => intro t h; simp [typesAt] at h; subst h; exact ⟨rfl, rfl⟩
  | cons c cs ih =>
    intro t h
    unfold typesAt at h
    rw [List.mapM_cons] at h
    cases hc : a[c]? with
    | none => rw [hc] at h; simp at h
    | some x =>
      rw [hc] at h
      cases hr : (cs.mapM fun c => a[c]?) with
      | none => rw [hr] at h; simp at h
      | some r =>
        rw [hr] at h
        simp at h
        subst h
        obtain ⟨h1, h2⟩ := ih r hr
        exact ⟨by rw [List.map_cons, List.map_cons, h1, typeNum_some hc], by simp [h2]⟩
theorem typesAt_none (a : List Bool) : ∀ (cs : List Nat), typesAt a cs = none → (cs.map (typeNum a)).contains 0 = true := by
  intro cs
  induction cs with
  | nil => intro h; simp [typesAt] at h
  | cons c cs ih =>
    intro h
    unfold typesAt at h
    rw [List.mapM_cons] at h
    rw [List.map_cons, List.contains_cons]
    cases hc : a[c]? with
    | none => rw [typeNum_none hc]; rfl
    | some x =>
      rw [hc] at h
      cases hr : (cs.mapM fun c => a[c]?) with
      | none => rw [ih hr]; simp
      | some r => rw [hr] at h; simp at h
theorem tnum_no0 (t : List Bool) : (t.map tnum).contains 0 = false := by
  induction t with
  | nil => rfl
  | cons x t ih =>
    rw [List.map_cons, List.contains_cons, ih]
    cases x <;> rfl
theorem colsRaw_ok {x : List UInt8} {cs : List Nat} (h : colsRaw x = some cs) : cs.length ≤ 18 ∧ (∀ c ∈ cs, c < 9) ∧ x ≠ [] := by
  unfold colsRaw at h
  split at h
  · rename_i hx
    cases h
    exact ⟨by simp, by simp, by rw [hx]; simp⟩
  · split at h
    · cases h
    · rename_i hx h18
      refine ⟨?_, fun c hc => mapM_lt h c hc, ?_⟩
      · rw [mapM_len h]
        have := spl_length_le 44 x
        omega
      · rintro rfl
        simp [spl, colOf] at h
theorem colsRaw_lt {ws : List (List UInt8)} {i : Nat} {cs : List Nat} (h : colsRaw (wordAt ws i) = some cs) : i < ws.length := word_lt (colsRaw_ok h).2.2

/-- What 'columnsOver' answers. -/
def OvAns (w0 w : World) (vs vw : Value) (ws : List (List UInt8)) (errno : Int) (rule : Bool) (o : Option (List Bool × List Bool × Nat)) (e : Ending) (w' : World) : Prop :=
  (match o with
    | none => ∃ te pe, e = .returned (.tuple #[.slice none 0 0, .pointer none, .slice none 0 0, .iface te pe]) ∧ Err w' errno (.iface te pe)
    | some (a, t, j) => ∃ ua un uc b tv base, e = .returned (.tuple #[.slice ua un uc, .pointer (some ⟨b, 0, none⟩), tv, .nilIface]) ∧ w'.ownsRow base 185 1 tv t.length (t.map tcode) ∧ w.heap.size ≤ base ∧ base ≤ w'.heap.size ∧ VwAt w0.heap.size w' b a ∧ RX w0 w' vs vw ws j errno rule) ∧ Stp w0.heap.size w w'

theorem xover (w0 w : World) (vs vw : Value) (ws : List (List UInt8)) (taken : Nat) (errno : Int) (rule : Bool) (V : Nat → Option (List Bool × Nat)) (hg : Glob w0) (h : RX w0 w vs vw ws taken errno rule) (ht : taken ≤ 16777216)
    (hV : ∀ w1 i, taken ≤ i → i ≤ ws.length → RX w0 w1 vs vw ws i errno rule → Calls Tryz.prog 99 #[.pointer (some ⟨w0.heap.size, 0, none⟩)] w1 fun e w' => WAns w0 w1 vs vw ws errno rule (V i) e w')
    (hV9 : ∀ i xs j, V i = some (xs, j) → xs.length ≤ 9) :
    Calls Tryz.prog 245 #[.pointer (some ⟨w0.heap.size, 0, none⟩)] w fun e w' => OvAns w0 w vs vw ws errno rule (overR ws V taken) e w' := by
  have h1 := xcolumns w0 w vs vw ws taken errno rule hg h ht
  unfold overR
  cases hc : colsRaw (wordAt ws taken) with
  | none =>
    rw [hc] at h1
    refine (pco_cols _ w (fun v w' => Err w' errno v ∧ Stp w0.heap.size w w') (h1.mono ?_)).mono ?_
    · rintro e w' ⟨⟨te, pe, rfl, hE⟩, hX, hS⟩; exact ⟨te, pe, rfl, hE, hS⟩
    · rintro e w' ⟨te, pe, rfl, hE, hS⟩
      exact ⟨⟨te, pe, rfl, hE⟩, hS⟩
  | some cs =>
    rw [hc] at h1
    have hlt := colsRaw_lt hc
    obtain ⟨hcl, hcm, _⟩ := colsRaw_ok hc
    have h1' : Calls Tryz.prog 289 #[.pointer (some ⟨w0.heap.size, 0, none⟩)] w fun e w' => ∃ u, e = .returned (.tuple #[u, .nilIface]) ∧ RdAt w0.heap.size w' u (cs.map i64v) ∧ RX w0 w' vs vw ws (taken + 1) errno rule ∧ Stp w0.heap.size w w' := by
      refine h1.mono ?_
      rintro e w' ⟨⟨u, rfl, hu⟩, hX, hS⟩
      exact ⟨u, rfl, hu, hX, hS⟩
    have h2 := fun (u : Value) w1 (hP : RdAt w0.heap.size w1 u (cs.map i64v) ∧ RX w0 w1 vs vw ws (taken + 1) errno rule ∧ Stp w0.heap.size w w1) => hV w1 (taken + 1) (by omega) hlt hP.2.1
    simp only
    cases hv : V (taken + 1) with
    | none =>
      rw [hv] at h2
      refine (pco_view _ w _ (fun v w' => Err w' errno v ∧ Stp w0.heap.size w w') h1' fun u w1 hP => (h2 u w1 hP).mono ?_).mono ?_
      · rintro e w' ⟨⟨te, pe, rfl, hE⟩, hS⟩; exact ⟨te, pe, rfl, hE, hP.2.2.trans hS⟩
      · rintro e w' ⟨te, pe, rfl, hE, hS⟩
        exact ⟨⟨te, pe, rfl, hE⟩, hS⟩
    | some q =>
      obtain ⟨a, j⟩ := q
      rw [hv] at h2
      have ha9 := hV9 _ _ _ hv
      refine (pco_go _ w cs a errno _ (fun u b w' => (∃ ua un uc, u = .slice ua un uc) ∧ VwAt w0.heap.size w' b a ∧ RX w0 w' vs vw ws j errno rule ∧ Stp w0.heap.size w w') (by omega) (by omega) (fun c hc => by have := hcm c hc; omega) h1' (fun u w1 hP => (h2 u w1 hP).mono ?_) fun u b w1 w2 s hP hb => (pfault_any w2 w0.heap.size errno s (hP.2.2.1.below hb).rd.c3).mono ?_).mono ?_
      · rintro e w' ⟨⟨b, rfl, hA, hX'⟩, hS⟩
        obtain ⟨tv, hne, hc6, htv⟩ := id hA
        have hu := hP.1.stp hS
        obtain ⟨ua, uc, hue, _⟩ := id hu
        exact ⟨b, tv, rfl, hc6, hu.reads, htv.reads, World.block_lt_of_cell? w' _ hc6, ⟨_, _, _, hue⟩, hA, hX', hP.2.2.trans hS⟩
      · rintro e w' ⟨rfl, rfl⟩
        exact ⟨_, _, rfl, Err.new _ _ _, (Below.refl _ _).alloc (Nat.le_refl _) _⟩
      · rintro e w' ⟨u, b, w2, ⟨⟨ua, un, uc, rfl⟩, hA, hX', hS⟩, hO, hb⟩
        refine ⟨?_, hS.trans (Stp.of_below hb)⟩
        simp only
        cases hty : typesAt a cs with
        | none =>
          rcases hO with ⟨hz, _⟩ | ⟨_, te, pe, rfl, hE⟩
          · rw [typesAt_none a cs hty] at hz; cases hz
          · exact ⟨te, pe, rfl, hE⟩
        | some t =>
          obtain ⟨hm, hl⟩ := typesAt_some a cs t hty
          rcases hO with ⟨_, tv, rfl, hown⟩ | ⟨hz, _⟩
          · refine ⟨ua, un, uc, b, tv, w2.heap.size, rfl, ?_, hS.size, hb.size, hA.stp (Stp.of_below hb), hX'.below hb⟩
            rw [hl, tnum_map, ← hm]
            exact hown
          · rw [hm, tnum_no0] at hz; cases hz

def pickV (o : Option (List Bool × List Bool × Nat)) : Option (List Bool × Nat) :=
  match o with
  | none => none
  | some (_, t, j) => some (t, j)
def countV (o : Option (List Bool × List Bool × Nat)) : Option (List Bool × Nat) :=
  match o with
  | none => none
  | some (_, t, j) => some (t ++ [false], j)
/-- pick COLS VIEW. -/
theorem xpick (w0 w : World) (vs vw : Value) (ws : List (List UInt8)) (errno : Int) (rule : Bool) (o : Option (List Bool × List Bool × Nat))
    (hlt : w0.heap.size < w.heap.size)
    (h1 : Calls Tryz.prog 245 #[.pointer (some ⟨w0.heap.size, 0, none⟩)] w fun e w' => OvAns w0 w vs vw ws errno rule o e w') :
    Calls Tryz.prog 200 #[.pointer (some ⟨w0.heap.size, 0, none⟩)] w fun e w' => OpAns w0 w vs vw ws errno rule (pickV o) e w' := by
  cases o with
  | none =>
    refine (ppick_no _ w (fun v w' => Err w' errno v ∧ Stp w0.heap.size w w') (h1.mono ?_)).mono ?_
    · rintro e w' ⟨⟨te, pe, rfl, hE⟩, hS⟩; exact ⟨te, pe, rfl, hE, hS⟩
    · rintro e w' ⟨te, pe, rfl, hE, hS⟩
      exact OpAns.err hE hS (Below.refl _ _)
  | some p =>
    obtain ⟨a, t, j⟩ := p
    refine (ppick_yes _ w (fun tv w' => TyAt w0.heap.size w' tv t ∧ RX w0 w' vs vw ws j errno rule ∧ Stp w0.heap.size w w') (h1.mono ?_)).mono ?_
    · rintro e w' ⟨⟨ua, un, uc, b, tv, base, rfl, hown, hb1, hb2, hA, hX⟩, hS⟩
      obtain ⟨ta, tc, rfl, _⟩ := row_slice hown
      exact ⟨ua, un, uc, b, ta, _, tc, rfl, TyAt.of_own hown (by omega), hX, hS⟩
    · rintro e w' ⟨tv, w3, ⟨htv, hX, hS⟩, hN⟩
      exact OpAns.new hX hS htv hN

theorem count_fin {w0 w w2 w3 w' : World} {vs vw tv : Value} {ws : List (List UInt8)} {j base : Nat} {errno : Int} {rule : Bool} {t : List Bool} {e : Ending} {i0 : Nat} (h0 : RX w0 w vs vw ws i0 errno rule) (hX : RX w0 w2 vs vw ws j errno rule) (hS : Stp w0.heap.size w w2) (hb1 : w0.heap.size < base) (_hb2 : base ≤ w2.heap.size) (hb : Below base w2 w3) (hown : w3.ownsRow base 185 1 tv (t.length + 1) (t.map tcode ++ [.int .i64 1]))
    (hk : w.heap.size ≤ base) (hN : NewVw w3 tv e w') : OpAns w0 w vs vw ws errno rule (some (t ++ [false], j)) e w' := by
  have hlt := hX.rd.lt
  have hX3 : RX w0 w3 vs vw ws j errno rule := by
    refine ⟨⟨(hb.cell (p := ⟨_, 0, none⟩) hb1).trans hX.rd.c0, (hb.cell (p := ⟨_, 1, none⟩) hb1).trans hX.rd.c1, (hb.cell (p := ⟨_, 2, none⟩) hb1).trans hX.rd.c2, (hb.cell (p := ⟨_, 3, none⟩) hb1).trans hX.rd.c3, (hb.cell (p := ⟨_, 4, none⟩) hb1).trans hX.rd.c4, (hb.frozen (p := ⟨_, 2, none⟩) hb1).trans hX.rd.fz, Nat.lt_of_lt_of_le hlt hb.size⟩, hX.bel.trans (hb.mono (by omega)), hX.reads.keepAt h0.reads hb.size (fun q hq _ => hb.block q (by omega)), hX.len, hX.short⟩
  have hS3 : Stp w0.heap.size w w3 := ⟨hb.os.trans hS.os, hb.tape.trans hS.tape, hb.output.trans hS.output, Nat.le_trans hS.size hb.size, fun i hi hn => (hb.block i (by omega)).trans (hS.block i hi hn)⟩
  refine OpAns.new hX3 hS3 (TyAt.of_own (base := base) (n := t.length + 1) (e := 185) ?_ hb1) hN
  rw [List.map_append]
  exact hown
/-- count COLS VIEW. -/
theorem xcount (w0 w : World) (vs vw : Value) (ws : List (List UInt8)) (taken : Nat) (errno : Int) (rule : Bool) (o : Option (List Bool × List Bool × Nat)) (h : RX w0 w vs vw ws taken errno rule) (ho : ∀ a t j, o = some (a, t, j) → t.length ≤ 1048577)
    (h1 : Calls Tryz.prog 245 #[.pointer (some ⟨w0.heap.size, 0, none⟩)] w fun e w' => OvAns w0 w vs vw ws errno rule o e w') :
    Calls Tryz.prog 203 #[.pointer (some ⟨w0.heap.size, 0, none⟩)] w fun e w' => OpAns w0 w vs vw ws errno rule (countV o) e w' := by
  have hlt := h.rd.lt
  cases o with
  | none =>
    refine (pcount_no _ w (fun v w' => Err w' errno v ∧ Stp w0.heap.size w w') (h1.mono ?_)).mono ?_
    · rintro e w' ⟨⟨te, pe, rfl, hE⟩, hS⟩; exact ⟨te, pe, rfl, hE, hS⟩
    · rintro e w' ⟨te, pe, rfl, hE, hS⟩
      exact OpAns.err hE hS (Below.refl _ _)
  | some p =>
    obtain ⟨a, t, j⟩ := p
    refine (pcount_yes _ w.heap.size w (t.map tcode) t.length (ho _ _ _ rfl) (fun w' => RX w0 w' vs vw ws j errno rule ∧ Stp w0.heap.size w w') (h1.mono ?_)).mono ?_
    · rintro e w' ⟨⟨ua, un, uc, b, tv, base, rfl, hown, hb1, hb2, hA, hX⟩, hS⟩
      exact ⟨ua, un, uc, b, tv, base, rfl, hown, hb1, hb2, hX, hS⟩
    · rintro e w' ⟨tv, w2, w3, base, ⟨hX, hS⟩, hb1, hb2, hb, hown, hN⟩
      exact count_fin h hX hS (by omega) hb2 hb hown hb1 hN

/-- sum COL COLS VIEW. -/
theorem xsum (w0 w : World) (vs vw : Value) (ws : List (List UInt8)) (taken : Nat) (errno : Int) (rule : Bool) (O : Option (List Bool × List Bool × Nat)) (h : RX w0 w vs vw ws taken errno rule) (ht : taken ≤ 16777216) (ho : ∀ a t j, O = some (a, t, j) → t.length ≤ 1048577 ∧ a.length ≤ 9)
    (hO : ∀ w1, (colRaw (wordAt ws taken)).isSome → RX w0 w1 vs vw ws (taken + 1) errno rule → Calls Tryz.prog 245 #[.pointer (some ⟨w0.heap.size, 0, none⟩)] w1 fun e w' => OvAns w0 w1 vs vw ws errno rule O e w') :
    Calls Tryz.prog 204 #[.pointer (some ⟨w0.heap.size, 0, none⟩)] w fun e w' => OpAns w0 w vs vw ws errno rule (match colRaw (wordAt ws taken) with
      | none => none
      | some c => match O with
        | none => none
        | some (a, t, j) => if a[c]? = some false then some (t ++ [false], j) else none) e w' := by
  have h1 := xcolumn w0 w vs vw ws taken errno rule h ht
  have hlt := h.rd.lt
  cases hc : colRaw (wordAt ws taken) with
  | none =>
    rw [hc] at h1
    refine (psum_col _ w (fun v w' => Err w' errno v ∧ Stp w0.heap.size w w') (h1.mono ?_)).mono ?_
    · rintro e w' ⟨⟨te, pe, rfl, hE⟩, hX, hS⟩; exact ⟨te, pe, rfl, hE, hS⟩
    · rintro e w' ⟨te, pe, rfl, hE, hS⟩
      exact OpAns.err hE hS (Below.refl _ _)
  | some c =>
    rw [hc] at h1
    have hc9 := colRaw_ok hc
    have h1' : Calls Tryz.prog 210 #[.pointer (some ⟨w0.heap.size, 0, none⟩)] w fun e w' => e = .returned (.tuple #[.int .i64 c, .nilIface]) ∧ RX w0 w' vs vw ws (taken + 1) errno rule ∧ Stp w0.heap.size w w' := h1
    have h2 := fun w1 (hP : RX w0 w1 vs vw ws (taken + 1) errno rule ∧ Stp w0.heap.size w w1) => hO w1 (by rw [hc]; rfl) hP.1
    simp only
    cases hO' : O with
    | none =>
      rw [hO'] at h2
      refine (psum_over _ c w _ (fun v w' => Err w' errno v ∧ Stp w0.heap.size w w') h1' fun w1 hP => (h2 w1 hP).mono ?_).mono ?_
      · rintro e w' ⟨⟨te, pe, rfl, hE⟩, hS⟩; exact ⟨te, pe, rfl, hE, hP.2.trans hS⟩
      · rintro e w' ⟨te, pe, rfl, hE, hS⟩
        exact OpAns.err hE hS (Below.refl _ _)
    | some p =>
      obtain ⟨a, t, j⟩ := p
      rw [hO'] at h2
      obtain ⟨ht9, ha9⟩ := ho _ _ _ hO'
      simp only
      have key : ∀ w1, (RX w0 w1 vs vw ws (taken + 1) errno rule ∧ Stp w0.heap.size w w1) → Calls Tryz.prog 245 #[.pointer (some ⟨w0.heap.size, 0, none⟩)] w1 fun e w' => ∃ ua un uc b tv base va vn vc, e = .returned (.tuple #[.slice ua un uc, .pointer (some ⟨b, 0, none⟩), tv, .nilIface]) ∧ w'.cell? ⟨b, 6, none⟩ = some (.slice va vn vc) ∧
          (Calls Tryz.prog 212 #[.slice va vn vc, .int .i64 c] w' fun e w2 => e = .returned (.int .i64 (typeNum a c)) ∧ w2 = w') ∧ w'.ownsRow base 185 1 tv t.length (t.map tcode) ∧ w.heap.size ≤ base ∧ base ≤ w'.heap.size ∧ RX w0 w' vs vw ws j errno rule ∧ Stp w0.heap.size w w' := by
        intro w1 hP
        refine (h2 w1 hP).mono ?_
        rintro e w' ⟨⟨ua, un, uc, b, tv, base, rfl, hown, hb1, hb2, ⟨vt, hne, hc6, htv⟩, hX⟩, hS⟩
        obtain ⟨va, vc, rfl⟩ := htv.slice
        exact ⟨ua, un, uc, b, tv, base, va, _, vc, rfl, hc6, ptypeAt_any w' _ a c htv.reads (by omega) (by omega), hown, Nat.le_trans hP.2.size hb1, hb2, hX, hP.2.trans hS⟩
      by_cases hf : a[c]? = some false
      · rw [if_pos hf]
        have htn : typeNum a c = 1 := typeNum_some hf
        rw [htn] at key
        refine (psum_yes _ c w.heap.size w (t.map tcode) t.length ht9 _ (fun w' => RX w0 w' vs vw ws j errno rule ∧ Stp w0.heap.size w w') h1' key).mono ?_
        rintro e w' ⟨tv, w2, w3, base, ⟨hX, hS⟩, hb1, hb2, hb, hown, hN⟩
        exact count_fin h hX hS (by omega) hb2 hb hown hb1 hN
      · rw [if_neg hf]
        have htn : (typeNum a c != 1) = true := by
          unfold typeNum
          cases hx : a[c]? with
          | none => rfl
          | some x =>
            cases x with
            | false => exact absurd hx hf
            | true => rfl
        refine (psum_type _ c (typeNum a c) htn w _ (fun w' => RX w0 w' vs vw ws j errno rule ∧ Stp w0.heap.size w w') (fun v w' => Err w' errno v ∧ Stp w0.heap.size w w') h1' (fun w1 hP => (key w1 hP).mono ?_) fun w1 s hP => (pfault_any w1 w0.heap.size errno s hP.1.rd.c3).mono ?_).mono ?_
        · rintro e w' ⟨ua, un, uc, b, tv, base, va, vn, vc, rfl, hc6, hT, hown, _, _, hX, hS⟩
          obtain ⟨ta, tc, rfl, _⟩ := row_slice hown
          exact ⟨ua, un, uc, b, ta, _, tc, va, vn, vc, rfl, hc6, hT, hX, hS⟩
        · rintro e w' ⟨rfl, rfl⟩
          exact ⟨_, _, rfl, Err.new _ _ _, hP.2.trans (Stp.of_below ((Below.refl _ _).alloc (Nat.le_refl _) _))⟩
        · rintro e w' ⟨te, pe, rfl, hE, hS⟩
          exact OpAns.err hE hS (Below.refl _ _)
end Go.Proofs.YtnpjldffciociaaGreatDoor
namespace Go.Proofs.YtnpjldffciociaaGreatDoor
open Go.RowKit

/-- join COL COL VIEW VIEW. -/
theorem xjoin (w0 w : World) (vs vw : Value) (ws : List (List UInt8)) (taken : Nat) (errno : Int) (rule : Bool) (V : Nat → Option (List Bool × Nat)) (h : RX w0 w vs vw ws taken errno rule) (ht : taken ≤ 16777215)
    (hV : ∀ w1 i, taken ≤ i → i ≤ ws.length → RX w0 w1 vs vw ws i errno rule → Calls Tryz.prog 99 #[.pointer (some ⟨w0.heap.size, 0, none⟩)] w1 fun e w' => WAns w0 w1 vs vw ws errno rule (V i) e w')
    (hVl : ∀ i xs j, V i = some (xs, j) → i < j ∧ j ≤ ws.length) (hV9 : ∀ i xs j, V i = some (xs, j) → xs.length ≤ 9) :
    Calls Tryz.prog 201 #[.pointer (some ⟨w0.heap.size, 0, none⟩)] w fun e w' => OpAns w0 w vs vw ws errno rule (match colRaw (wordAt ws taken) with
      | none => none
      | some c => match colRaw (wordAt ws (taken + 1)) with
        | none => none
        | some d => match twoV V (taken + 2) with
          | none => none
          | some (a, b, j) => if alikeO a c b d then some (a ++ b, j) else none) e w' := by
  have h2 := xtwo w0 w vs vw ws taken errno rule h ht
  have hno : (colRaw (wordAt ws taken) = none ∨ colRaw (wordAt ws (taken + 1)) = none) → Calls Tryz.prog 201 #[.pointer (some ⟨w0.heap.size, 0, none⟩)] w fun e w' => OpAns w0 w vs vw ws errno rule none e w' := by
    intro hn
    refine (pjoin_cols _ w (fun v w' => Err w' errno v ∧ Stp w0.heap.size w w') (h2.mono ?_)).mono ?_
    · rintro e w' ⟨hA, hX, hS⟩
      rcases hA with ⟨c, d, hc, hd, _⟩ | ⟨_, a, b, te, pe, rfl, hE⟩
      · rcases hn with hn | hn
        · rw [hn] at hc; cases hc
        · rw [hn] at hd; cases hd
      · exact ⟨a, b, te, pe, rfl, hE, hS⟩
    · rintro e w' ⟨te, pe, rfl, hE, hS⟩
      exact OpAns.err hE hS (Below.refl _ _)
  cases hc : colRaw (wordAt ws taken) with
  | none => exact hno (Or.inl hc)
  | some c =>
    simp only
    cases hd : colRaw (wordAt ws (taken + 1)) with
    | none => exact hno (Or.inr hd)
    | some d =>
      rw [hc, hd] at h2
      have hlt := colRaw_lt hd
      have hc9 := colRaw_ok hc
      have hd9 := colRaw_ok hd
      have h2' : Calls Tryz.prog 246 #[.pointer (some ⟨w0.heap.size, 0, none⟩)] w fun e w' => e = .returned (.tuple #[.int .i64 c, .int .i64 d, .nilIface]) ∧ RX w0 w' vs vw ws (taken + 2) errno rule ∧ Stp w0.heap.size w w' := by
        refine h2.mono ?_
        rintro e w' ⟨hA, hX, hS⟩
        rcases hA with ⟨c', d', hc', hd', rfl⟩ | ⟨hn, _⟩
        · cases hc'; cases hd'
          exact ⟨rfl, by simpa using hX, hS⟩
        · simp at hn
      have h3 := fun w1 (hP : RX w0 w1 vs vw ws (taken + 2) errno rule ∧ Stp w0.heap.size w w1) => xtwoV w0 w1 vs vw ws (taken + 2) errno rule V hP.1 hlt (fun w2 i hi => hV w2 i (by omega)) hVl
      simp only
      cases ht2 : twoV V (taken + 2) with
      | none =>
        rw [ht2] at h3
        refine (pjoin_views _ c d w _ (fun v w' => Err w' errno v ∧ Stp w0.heap.size w w') h2' fun w1 hP => (h3 w1 hP).mono ?_).mono ?_
        · rintro e w' ⟨⟨p, q, te, pe, rfl, hE⟩, hS⟩; exact ⟨p, q, te, pe, rfl, hE, hP.2.trans hS⟩
        · rintro e w' ⟨te, pe, rfl, hE, hS⟩
          exact OpAns.err hE hS (Below.refl _ _)
      | some p =>
        obtain ⟨a, b, j⟩ := p
        rw [ht2] at h3
        have hl9 : a.length ≤ 9 ∧ b.length ≤ 9 := by
          obtain ⟨j1, hv1, hv2⟩ := twoV_some ht2
          exact ⟨hV9 _ _ _ hv1, hV9 _ _ _ hv2⟩
        have hal : ∀ t1 t2 w1, TyAt w0.heap.size w1 t1 a → TyAt w0.heap.size w1 t2 b → Calls Tryz.prog 248 #[t1, .int .i64 c, t2, .int .i64 d] w1 fun e w' => e = .returned (.bool (alikeO a c b d)) ∧ w' = w1 := by
          intro t1 t2 w1 q1 q2
          have := palike_any w1 t1 t2 c d _ _ (ptypeAt_any w1 t1 a c q1.reads (by omega) (by omega)) (ptypeAt_any w1 t2 b d q2.reads (by omega) (by omega))
          rw [type_alike] at this
          exact this
        simp only
        cases hA : alikeO a c b d with
        | false =>
          rw [hA] at hal
          refine (pjoin_ne _ c d w _ (fun v w' => Err w' errno v ∧ Stp w0.heap.size w w') (fun t1 t2 w' => TyAt w0.heap.size w' t1 a ∧ TyAt w0.heap.size w' t2 b ∧ RX w0 w' vs vw ws j errno rule ∧ Stp w0.heap.size w w') ?_ h2' (fun w1 hP => (h3 w1 hP).mono ?_) (fun t1 t2 w1 hP => hal t1 t2 w1 hP.1 hP.2.1) fun t1 t2 w1 s hP => (pfault_any w1 w0.heap.size errno s hP.2.2.1.rd.c3).mono ?_).mono ?_
          · rintro t1 t2 w1 ⟨q1, q2, hX, hS⟩
            have hdd : Below w1.heap.size w1 w1.drew := (Below.refl _ _).drew
            exact ⟨q1.below hdd, q2.below hdd, hX.below hdd, hS.trans (Stp.of_below hdd)⟩
          · rintro e w' ⟨⟨b1, b2, rfl, ⟨t1, ne1, c1, q1⟩, ⟨t2, ne2, c2, q2⟩, hX⟩, hS⟩
            obtain ⟨ta1, tc1, rfl⟩ := q1.slice
            obtain ⟨ta2, tc2, rfl⟩ := q2.slice
            exact ⟨b1, b2, _, _, _, _, _, _, rfl, c1, c2, q1, q2, hX, hP.2.trans hS⟩
          · rintro e w' ⟨rfl, rfl⟩
            exact ⟨_, _, rfl, Err.new _ _ _, hP.2.2.2.trans (Stp.of_below ((Below.refl _ _).alloc (Nat.le_refl _) _))⟩
          · rintro e w' ⟨te, pe, rfl, hE, hS⟩
            exact OpAns.err hE hS (Below.refl _ _)
        | true =>
          rw [hA] at hal
          refine (pjoin_yes _ c d w _ (fun _ _ t1 t2 w' => TyAt w0.heap.size w' t1 a ∧ TyAt w0.heap.size w' t2 b ∧ RX w0 w' vs vw ws j errno rule ∧ Stp w0.heap.size w w') (fun tv w' => TyAt w0.heap.size w' tv (a ++ b) ∧ RX w0 w' vs vw ws j errno rule ∧ Stp w0.heap.size w w') ?_ h2' (fun w1 hP => (h3 w1 hP).mono ?_) (fun _ _ t1 t2 w1 hP => hal t1 t2 w1 hP.1 hP.2.1) ?_).mono ?_
          · rintro _ _ t1 t2 w1 ⟨q1, q2, hX, hS⟩
            have hdd : Below w1.heap.size w1 w1.drew := (Below.refl _ _).drew
            exact ⟨q1.below hdd, q2.below hdd, hX.below hdd, hS.trans (Stp.of_below hdd)⟩
          · rintro e w' ⟨⟨b1, b2, rfl, ⟨t1, ne1, c1, q1⟩, ⟨t2, ne2, c2, q2⟩, hX⟩, hS⟩
            obtain ⟨ta1, tc1, rfl⟩ := q1.slice
            obtain ⟨ta2, tc2, rfl⟩ := q2.slice
            exact ⟨b1, b2, _, _, _, _, _, _, rfl, c1, c2, q1, q2, hX, hP.2.trans hS⟩
          · rintro _ _ t1 t2 w1 w2 g ⟨q1, q2, hX, hS⟩ hb hc0 hc1 hg
            refine (pSlConcat g t1 t2 (a.map tnum) (b.map tnum) w2 hc0 hc1 hg (by rw [← tnum_map]; exact (q1.below hb).reads) (by rw [← tnum_map]; exact (q2.below hb).reads) q1.2 q2.2 (by simp; omega) (by simp; omega)).mono ?_
            rintro e w' ⟨v, rfl, hown, hb'⟩
            obtain ⟨va, vc, rfl, _⟩ := row_slice hown
            have hlt2 := (hX.below hb).rd.lt
            refine ⟨va, _, vc, rfl, TyAt.of_own (base := w2.heap.size) (n := (a.map tnum ++ b.map tnum).length) (e := 185) ?_ hlt2, (hX.below hb).below hb', (hS.trans (Stp.of_below hb)).trans (Stp.of_below hb')⟩
            rw [tnum_map, List.map_append]
            exact hown
          · rintro e w' ⟨tv, w3, ⟨htv, hX, hS⟩, hN⟩
            simp only [if_true]
            exact OpAns.new hX hS htv hN

/-- A view that was made, its words not yet told. -/
def MdAt (w0 w : World) (vs vw : Value) (ws : List (List UInt8)) (errno : Int) (rule : Bool) (xs : List Bool) (j b : Nat) (w1 : World) : Prop :=
  ∃ w3 tv, RX w0 w3 vs vw ws j errno rule ∧ Stp w0.heap.size w w3 ∧ TyAt w0.heap.size w3 tv xs ∧ Below w3.heap.size w3 w1 ∧ w3.heap.size ≤ b ∧ w1.cell? ⟨b, 6, none⟩ = some tv ∧ SevAt w1 b
theorem SevAt.lt {w : World} {b : Nat} (h : SevAt w b) : b < w.heap.size := by
  obtain ⟨row, s, hr, _⟩ := h
  exact (Array.getElem?_eq_some_iff.1 hr).1
theorem SevAt.below {w w' : World} {b : Nat} (h : SevAt w b) (hb : Below w.heap.size w w') : SevAt w' b := by
  have hlt := h.lt
  obtain ⟨row, s, hr, h7⟩ := h
  exact ⟨row, s, (hb.block b hlt).trans hr, h7⟩
theorem MdAt.below {w0 w w1 w2 : World} {vs vw : Value} {ws : List (List UInt8)} {errno : Int} {rule : Bool} {xs : List Bool} {j b : Nat} (h : MdAt w0 w vs vw ws errno rule xs j b w1) (hb : Below w1.heap.size w1 w2) : MdAt w0 w vs vw ws errno rule xs j b w2 := by
  obtain ⟨w3, tv, h1, h2, h3, h4, h5, h6, h7⟩ := h
  exact ⟨w3, tv, h1, h2, h3, h4.trans (hb.mono h4.size), h5, (hb.cell (p := ⟨b, 6, none⟩) h7.lt).trans h6, h7.below hb⟩
/-- The words are told: the view is as it was. -/
theorem MdAt.fin {w0 w w1 : World} {vs vw : Value} {ws : List (List UInt8)} {errno : Int} {rule : Bool} {xs : List Bool} {j b : Nat} (h : MdAt w0 w vs vw ws errno rule xs j b w1) (S : ByteArray) : WAns w0 w vs vw ws errno rule (some (xs, j)) (.returned (.tuple #[.pointer (some ⟨b, 0, none⟩), .nilIface])) (w1.setCell ⟨b, 7, none⟩ (.string S)) := by
  obtain ⟨w3, tv, h1, h2, h3, h4, h5, h6, row, s, hr, h7⟩ := h
  have hlt := h1.rd.lt
  have hb : Below w3.heap.size w3 (w1.setCell ⟨b, 7, none⟩ (.string S)) := h4.setCell (p := ⟨b, 7, none⟩) h5 _
  refine ⟨⟨b, rfl, ⟨tv, by omega, ?_, h3.below hb⟩, h1.below hb⟩, h2.trans (Stp.of_below hb)⟩
  have hr2 : (w1.setCell ⟨b, 7, none⟩ (.string S)).heap[b]? = some (.cells (row.setIfInBounds 7 (.string S)) 113 (0, 0)) := by
    simp [World.setCell, Array.getElem?_modify, hr]
  rw [Lib.cell_of_heap hr] at h6
  rw [Lib.cell_of_heap hr2, Array.getElem?_setIfInBounds, if_neg (by decide)]
  exact h6
theorem xview_of (w0 w : World) (vs vw : Value) (ws : List (List UInt8)) (taken wb : Nat) (errno : Int) (rule : Bool) (h : RX w0 w vs vw ws taken errno rule) (hvw : vw = .slice (some ⟨wb, 0, none⟩) ws.length ws.length) (ht : taken ≤ 16777216) (o : Option (List Bool × Nat)) (ho : ∀ xs j, wideV o = some (xs, j) → taken < j ∧ j ≤ ws.length)
    (hop : Calls Tryz.prog 152 #[.pointer (some ⟨w0.heap.size, 0, none⟩)] w fun e w' => OpAns w0 w vs vw ws errno rule o e w') :
    Calls Tryz.prog 99 #[.pointer (some ⟨w0.heap.size, 0, none⟩)] w fun e w' => WAns w0 w vs vw ws errno rule (wideV o) e w' := by
  have hp := pplace_any w w0.heap.size taken h.rd.c2 ht
  cases o with
  | none =>
    refine (pview_no _ taken w errno (fun w' => Stp w0.heap.size w w') hp (hop.mono ?_)).mono ?_
    · rintro e w' ⟨⟨te, pe, rfl, hE⟩, hS⟩; exact ⟨te, pe, rfl, hE, hS⟩
    · rintro e w' ⟨te, pe, w1, rfl, hE, hS, hb⟩
      exact ⟨⟨te, pe, rfl, hE⟩, hS.trans (Stp.of_below hb)⟩
  | some p =>
    obtain ⟨xs, j⟩ := p
    unfold wideV at ho ⊢
    by_cases h9 : xs.length ≤ 9
    · simp only [h9, if_true] at ho ⊢
      obtain ⟨hj1, hj2⟩ := ho xs j rfl
      refine (pview_yes _ taken j wb ws.length w (fun b w' => MdAt w0 w vs vw ws errno rule xs j b w') (fun b w' => MdAt w0 w vs vw ws errno rule xs j b w') hj1 hj2 h.len hp (hop.mono ?_) (fun b w1 hP => hP.below (Below.refl _ _).drew) ?_).mono ?_
      · rintro e w' ⟨w3, tv, hX, hS, htv, hb, nb, hnb, rfl, hc, hs7⟩
        obtain ⟨ta, tc, rfl⟩ := htv.slice
        have hX' := hX.below hb
        refine ⟨nb, _, ta, tc, rfl, hc, h9, ?_, hX'.rd.c2, w3, _, hX, hS, htv, hb, hnb, hc, hs7⟩
        rw [← hvw]; exact hX'.rd.c1
      · intro b w1 hP
        obtain ⟨w3, tv, h1, h2, h3, h4, h5, h6, h7⟩ := id hP
        refine (pwords w0 w1 vs ws j errno rule wb taken j (ws.length - taken) (hvw ▸ h1.below h4) hj1 hj2 (by omega)).mono ?_
        rintro e w' ⟨S, rfl, _, hb⟩
        have h7' := h7.below hb
        obtain ⟨row, s, hr, hs⟩ := id h7'
        refine ⟨S, s, rfl, ?_, Lib.frozen_of_heap hr 7, hP.below hb⟩
        rw [Lib.cell_of_heap hr]; exact hs
      · rintro e w' ⟨b, S, w2, rfl, hP, rfl⟩
        exact hP.fin S
    · simp only [h9, if_false]
      refine (pview_wide _ taken w errno (fun w' => RX w0 w' vs vw ws j errno rule ∧ Stp w0.heap.size w w') hp (hop.mono ?_) fun w1 s hP => (pfault_any w1 w0.heap.size errno s hP.1.rd.c3).mono ?_).mono ?_
      · rintro e w' ⟨w3, tv, hX, hS, htv, hb, nb, hnb, rfl, hc, hs7⟩
        obtain ⟨ta, tc, rfl⟩ := htv.slice
        exact ⟨nb, _, ta, tc, rfl, hc, by omega, hX.below hb, hS.trans (Stp.of_below hb)⟩
      · rintro e w' ⟨rfl, rfl⟩
        have hba : Below w1.heap.size w1 (w1.alloc (.cells #[.int .i64 errno, .string s] 179)) := (Below.refl _ _).alloc (Nat.le_refl _) _
        exact ⟨_, _, rfl, Err.new _ _ _, hP.1.below hba, hP.2.trans (Stp.of_below hba)⟩
      · rintro e w' ⟨te, pe, w1, rfl, hE, hP, hb⟩
        exact ⟨⟨te, pe, rfl, hE⟩, hP.2.trans (Stp.of_below hb)⟩

theorem vword_inv (x : List UInt8) : (vword x = .all → x = wAll) ∧ (vword x = .keep → x = wKeep) ∧ (vword x = .pick → x = wPick) ∧ (vword x = .count → x = wCount) ∧ (vword x = .sum → x = wSum) ∧ (vword x = .join → x = wJoin) ∧ (vword x = .both → x = wBoth) ∧
    (vword x = .none → (x == wAll) = false ∧ (x == wKeep) = false ∧ (x == wPick) = false ∧ (x == wJoin) = false ∧ (x == wBoth) = false ∧ (x == wCount) = false ∧ (x == wSum) = false) := by
  unfold vword
  by_cases h1 : x = wAll
  · subst h1; simp
  by_cases h2 : x = wKeep
  · subst h2; simp
  by_cases h3 : x = wPick
  · subst h3; simp
  by_cases h4 : x = wCount
  · subst h4; simp
  by_cases h5 : x = wSum
  · subst h5; simp
  by_cases h6 : x = wJoin
  · subst h6; simp
  by_cases h7 : x = wBoth
  · subst h7; simp
  rw [if_neg h1, if_neg h2, if_neg h3, if_neg h4, if_neg h5, if_neg h6, if_neg h7]
  simp [h1, h2, h3, h4, h5, h6, h7]
theorem parseV_9 {ts : List (List UInt8 × List Bool)} {ws : List (List UInt8)} {k i j : Nat} {xs : List Bool} (h : parseV ts ws k i = some (xs, j)) : xs.length ≤ 9 := by
  cases k with
  | zero => cases h
  | succ k => rw [parseV] at h; exact (wideV_some h).2
theorem overR_len {ws : List (List UInt8)} {V : Nat → Option (List Bool × Nat)} {i j : Nat} {a t : List Bool} (h : overR ws V i = some (a, t, j)) : t.length ≤ 1048577 ∧ V (i + 1) = some (a, j) := by
  obtain ⟨hv, cs, hc, ht⟩ := overR_some h
  obtain ⟨_, hl⟩ := typesAt_some a cs t ht
  have := (colsRaw_ok hc).1
  exact ⟨by omega, hv⟩
end Go.Proofs.YtnpjldffciociaaGreatDoor
namespace Go.Proofs.YtnpjldffciociaaGreatDoor
open Go.RowKit

/-- VIEW. -/
theorem xview (w0 : World) (vs vw : Value) (wb : Nat) (ts : List (List UInt8 × List Bool)) (ws : List (List UInt8)) (errno : Int) (hg : Glob w0) (hs : ReadsTabs tcode w0 vs ts) (hl : ts.length ≤ 1048577) (hlc : ∀ t, (ts.getD t ([], [])).2.length ≤ 1048577) (hlp : ∀ t, t < ts.length → 1 ≤ (ts.getD t ([], [])).2.length) (hn : ∀ t ∈ ts, t.1 ≠ []) (hvw : vw = .slice (some ⟨wb, 0, none⟩) ws.length ws.length) :
    ∀ (k : Nat) (w : World) (taken : Nat), ws.length < taken + k → taken ≤ ws.length → RX w0 w vs vw ws taken errno false →
      Calls Tryz.prog 99 #[.pointer (some ⟨w0.heap.size, 0, none⟩)] w fun e w' => WAns w0 w vs vw ws errno false (parseV ts ws k taken) e w' := by
  intro k
  induction k with
  | zero => intro w taken h1 h2; omega
  | succ k ih =>
    intro w taken h1 h2 hX
    have hlen := hX.len
    have hlt0 := hX.rd.lt
    have hPL : ∀ xs j, parseV ts ws (k + 1) taken = some (xs, j) → taken < j ∧ j ≤ ws.length := fun xs j h => by
      obtain ⟨a1, a2, _⟩ := parseV_len ts hn ws (k + 1) taken xs j h
      exact ⟨a1, a2⟩
    rw [parseV] at hPL ⊢
    refine xview_of w0 w vs vw ws taken wb errno false hX hvw (by omega) _ hPL ?_
    have hw := xword w0 w vs vw ws taken errno false hX (by omega)
    obtain ⟨i1, i2, i3, i4, i5, i6, i7, i8⟩ := vword_inv (wordAt ws taken)
    have hV : ∀ w1 i, taken + 1 ≤ i → i ≤ ws.length → RX w0 w1 vs vw ws i errno false → Calls Tryz.prog 99 #[.pointer (some ⟨w0.heap.size, 0, none⟩)] w1 fun e w' => WAns w0 w1 vs vw ws errno false (parseV ts ws k i) e w' := fun w1 i hi1 hi2 hXi => ih w1 i (by omega) hi2 hXi
    have hVl : ∀ i xs j, parseV ts ws k i = some (xs, j) → i < j ∧ j ≤ ws.length := fun i xs j h => by
      obtain ⟨a1, a2, _⟩ := parseV_len ts hn ws k i xs j h
      exact ⟨a1, a2⟩
    have hV9 : ∀ i xs j, parseV ts ws k i = some (xs, j) → xs.length ≤ 9 := fun i xs j h => parseV_9 h
    unfold viewB
    match hv : vword (wordAt ws taken) with
    | (false, false, false) =>
      rw [i1 hv] at hw
      refine (pop_all _ w _ (fun a b w' => OpAns w0 w vs vw ws errno false (match findT ts (wordAt ws (taken + 1)) with
        | none => none
        | some t => some ((ts.getD t ([], [])).2, taken + 2)) (.returned (.tuple #[a, b])) w') hw fun w1 hP => (xall w0 w1 vs vw ts ws (taken + 1) errno false hs hl hlp hP.1 (by omega)).mono fun e w' hA => (hA.trans hP.2).form).mono ?_
      rintro e w' ⟨a, b, rfl, hA⟩; exact hA
    | (false, false, true) =>
      have htl : taken < ws.length := vword_lt (by rw [hv]; simp)
      rw [i2 hv] at hw
      refine (pop_keep _ w _ (fun a b w' => OpAns w0 w vs vw ws errno false (match parseC ts false ws k (taken + 1) with
        | none => none
        | some (c, j) => match parseV ts ws k j with
          | none => none
          | some (a, j2) => if fitC ts a c then some (a, j2) else none) (.returned (.tuple #[a, b])) w') hw fun w1 hP => (xkeep w0 w1 vs vw ts ws k (taken + 1) errno (fun j => parseV ts ws k j) hg hs hl hlc hP.1 htl (by omega) (fun w2 i hi => hV w2 i (by omega)) hV9).mono fun e w' hA => (hA.trans hP.2).form).mono ?_
      rintro e w' ⟨a, b, rfl, hA⟩; exact hA
    | (false, true, false) =>
      rw [i3 hv] at hw
      refine (pop_pick _ w _ (fun a b w' => OpAns w0 w vs vw ws errno false (match overR ws (fun j => parseV ts ws k j) (taken + 1) with
        | none => none
        | some (_, t, j) => some (t, j)) (.returned (.tuple #[a, b])) w') hw fun w1 hP => (xpick w0 w1 vs vw ws errno false _ hP.1.rd.lt (xover w0 w1 vs vw ws (taken + 1) errno false (fun j => parseV ts ws k j) hg hP.1 (by omega) hV hV9)).mono fun e w' hA => (hA.trans hP.2).form).mono ?_
      rintro e w' ⟨a, b, rfl, hA⟩; exact hA
    | (false, true, true) =>
      rw [i4 hv] at hw
      refine (pop_count _ w _ (fun a b w' => OpAns w0 w vs vw ws errno false (match overR ws (fun j => parseV ts ws k j) (taken + 1) with
        | none => none
        | some (_, t, j) => some (t ++ [false], j)) (.returned (.tuple #[a, b])) w') hw fun w1 hP => (xcount w0 w1 vs vw ws (taken + 1) errno false _ hP.1 (fun a t j h => (overR_len h).1) (xover w0 w1 vs vw ws (taken + 1) errno false (fun j => parseV ts ws k j) hg hP.1 (by omega) hV hV9)).mono fun e w' hA => (hA.trans hP.2).form).mono ?_
      rintro e w' ⟨a, b, rfl, hA⟩; exact hA
    | (true, false, false) =>
      have htl : taken < ws.length := vword_lt (by rw [hv]; simp)
      rw [i5 hv] at hw
      refine (pop_sum _ w _ (fun a b w' => OpAns w0 w vs vw ws errno false (match colRaw (wordAt ws (taken + 1)) with
        | none => none
        | some c => match overR ws (fun j => parseV ts ws k j) (taken + 2) with
          | none => none
          | some (a, t, j) => if a[c]? = some false then some (t ++ [false], j) else none) (.returned (.tuple #[a, b])) w') hw fun w1 hP => (xsum w0 w1 vs vw ws (taken + 1) errno false (overR ws (fun j => parseV ts ws k j) (taken + 2)) hP.1 (by omega) (fun a t j h => ⟨(overR_len h).1, hV9 _ _ _ (overR_len h).2⟩) (fun w2 _ hX2 => xover w0 w2 vs vw ws (taken + 2) errno false (fun j => parseV ts ws k j) hg hX2 (by omega) (fun w3 i hi => hV w3 i (by omega)) hV9)).mono fun e w' hA => (hA.trans hP.2).form).mono ?_
      rintro e w' ⟨a, b, rfl, hA⟩; exact hA
    | (true, false, true) =>
      rw [i6 hv] at hw
      refine (pop_join _ w _ (fun a b w' => OpAns w0 w vs vw ws errno false (match colRaw (wordAt ws (taken + 1)) with
        | none => none
        | some c => match colRaw (wordAt ws (taken + 2)) with
          | none => none
          | some d => match twoV (fun j => parseV ts ws k j) (taken + 3) with
            | none => none
            | some (a, b, j) => if alikeO a c b d then some (a ++ b, j) else none) (.returned (.tuple #[a, b])) w') hw fun w1 hP => (xjoin w0 w1 vs vw ws (taken + 1) errno false (fun j => parseV ts ws k j) hP.1 (by omega) hV hVl hV9).mono fun e w' hA => (hA.trans hP.2).form).mono ?_
      rintro e w' ⟨a, b, rfl, hA⟩; exact hA
    | (true, true, false) =>
      have htl : taken < ws.length := vword_lt (by rw [hv]; simp)
      rw [i7 hv] at hw
      refine (pop_both _ w _ (fun a b w' => OpAns w0 w vs vw ws errno false (match twoV (fun j => parseV ts ws k j) (taken + 1) with
        | none => none
        | some (a, b, j) => if a = b then some (a, j) else none) (.returned (.tuple #[a, b])) w') hw fun w1 hP => (xboth w0 w1 vs vw ws (taken + 1) errno false (fun j => parseV ts ws k j) hP.1 htl hV hVl hV9).mono fun e w' hA => (hA.trans hP.2).form).mono ?_
      rintro e w' ⟨a, b, rfl, hA⟩; exact hA
    | (true, true, true) =>
      obtain ⟨a1, a2, a3, a4, a5, a6, a7⟩ := i8 hv
      refine (pop_none _ _ w _ (fun v w' => Err w' errno v ∧ Stp w0.heap.size w w') a1 a2 a3 a4 a5 a6 a7 hw fun w1 s hP => (xwrong w0 w1 w1 vs vw ws _ errno false hP.1 (Below.refl _ _) s).mono ?_).mono ?_
      · rintro e w' ⟨te, pe, rfl, hE, hb⟩
        exact ⟨te, pe, rfl, hE, hP.2.trans (Stp.of_below hb)⟩
      · rintro e w' ⟨te, pe, rfl, hE, hS⟩
        exact OpAns.err hE hS (Below.refl _ _)
end Go.Proofs.YtnpjldffciociaaGreatDoor
