import Derived.Test.YtnpjldffciociaaGreatDoorC10
import Derived.Test.YtnpjldffciociaaGreatDoorB03
import Derived.Test.YtnpjldffciociaaGreatDoorC09
import Derived.Test.YtnpjldffciociaaGreatDoorC11
namespace Go.Proofs.YtnpjldffciociaaGreatDoor
open Go.RowKit

set_option maxRecDepth 10000 in
set_option maxHeartbeats 1000000 in
theorem pcols_dash (rb : Nat) (w : World) (P : World → Prop)
    (hw : Calls Tryz.prog 156 #[.pointer (some ⟨rb, 0, none⟩)] w fun e w' => e = .returned (.string (bs [45])) ∧ P w') :
    Calls Tryz.prog 289 #[.pointer (some ⟨rb, 0, none⟩)] w fun e w' => e = .returned (.tuple #[.slice none 0 0, .nilIface]) ∧ P w' := by
  have hbs := bs_toList2
  go_enter Tryz.func289, Tryz.ntmps289
  go_wp2_with (go_at_call 156; refine hw.mono ?_; rintro e w1 ⟨rfl, hP⟩)
  go_ret2
  exact ⟨rfl, hP⟩
set_option maxRecDepth 10000 in
set_option maxHeartbeats 1000000 in
theorem pcols_long (rb : Nat) (x : List UInt8) (w : World) (P : World → Prop) (R : Value → World → Prop) (hx : (x == [45]) = false) (h18 : 18 ≤ x.length) (hxl : x.length ≤ 1048577)
    (hw : Calls Tryz.prog 156 #[.pointer (some ⟨rb, 0, none⟩)] w fun e w' => e = .returned (.string (bs x)) ∧ P w')
    (hwr : ∀ w1 s, P w1 → Calls Tryz.prog 159 #[.pointer (some ⟨rb, 0, none⟩), .string s] w1 fun e w' => ∃ te pe, e = .returned (.iface te pe) ∧ R (.iface te pe) w') :
    Calls Tryz.prog 289 #[.pointer (some ⟨rb, 0, none⟩)] w fun e w' => ∃ te pe, e = .returned (.tuple #[.slice none 0 0, .iface te pe]) ∧ R (.iface te pe) w' := by
  have hbs := bs_toList2
  have hsz : (bs x).size = x.length := rfl
  have h18' : (18 : Int) ≤ (x.length : Int) := by omega
  go_enter Tryz.func289, Tryz.ntmps289
  go_wp2_with (first
    | (go_at_call 156; refine hw.mono ?_; rintro e w1 ⟨rfl, hP⟩)
    | (go_at_call 159; refine (hwr _ _ hP).mono ?_; rintro e w2 ⟨te, pe, rfl, hR⟩))
  go_ret2
  exact ⟨te, pe, rfl, hR⟩

/-- What 'columns' answers. -/
def PColsAns (rb : Nat) (errno : Int) (o : Option (List Nat)) (e : Ending) (w' : World) : Prop :=
  match o with
  | some cs => ∃ u, e = .returned (.tuple #[u, .nilIface]) ∧ RdAt rb w' u (cs.map i64v)
  | none => ∃ te pe, e = .returned (.tuple #[.slice none 0 0, .iface te pe]) ∧ Err w' errno (.iface te pe)

set_option maxRecDepth 10000 in
set_option maxHeartbeats 2000000 in
theorem pcols_go (rb : Nat) (x : List UInt8) (w : World) (P : World → Prop) (errno : Int) (hx : (x == [45]) = false) (h18 : x.length < 18)
    (hw : Calls Tryz.prog 156 #[.pointer (some ⟨rb, 0, none⟩)] w fun e w' => e = .returned (.string (bs x)) ∧ P w')
    (hg : ∀ w1, P w1 → Glob w1) (hlt : ∀ w1, P w1 → rb < w1.heap.size) (hb : ∀ w1 w2, P w1 → Below w1.heap.size w1 w2 → P w2)
    (hwr : ∀ w1 s, P w1 → Calls Tryz.prog 159 #[.pointer (some ⟨rb, 0, none⟩), .string s] w1 fun e w' => ∃ te pe, e = .returned (.iface te pe) ∧ Err w' errno (.iface te pe) ∧ P w') :
    Calls Tryz.prog 289 #[.pointer (some ⟨rb, 0, none⟩)] w fun e w' => PColsAns rb errno ((spl 44 x).mapM fun p => colOf p 9) e w' ∧ P w' := by
  obtain ⟨i0, hi, hz0, hz1, hz2⟩ := info_parts Tryz.infoInt
  have hbs := bs_toList2
  have hsz : (bs x).size = x.length := rfl
  have h18' : ¬ ((18 : Int) ≤ (x.length : Int)) := by omega
  have hlen := spl_length_le 44 x
  have HM : Hid (∀ y ∈ spl 44 x, y.length ≤ x.length) := Hid.mk (spl_mem_length 44 x)
  have hsp := fun w1 (hP : P w1) => psplit_any (bs x) 44 w1 (by rw [bs_size]; omega) (hg w1 hP)
  rw [show (bs x).data.toList = x from rfl] at hsp
  generalize spl 44 x = ps at *
  go_enter Tryz.func289, Tryz.ntmps289
  go_wp2_with (first
    | (go_at_call 156; refine hw.mono ?_; rintro e w1 ⟨rfl, hP⟩)
    | (go_at_call 94; refine (hsp _ hP).mono ?_; rintro e w2 ⟨rfl, hw2⟩))
  subst hw2
  have hba : Below w1.heap.size w1 (w1.alloc (.cells (ps.map fun l => Value.string (bs l)).toArray 9)) := (Below.refl _ _).alloc (Nat.le_refl _) _
  have H1 : Hid (∀ k (h : k < ps.length), (w1.alloc (.cells (ps.map fun l => Value.string (bs l)).toArray 9)).cell? ⟨w1.heap.size, k, none⟩ = some (.string (bs ps[k]))) := Hid.mk (fun k h => by
    rw [World.cell?_alloc_at _ _ _ _ (by simp)]; simp [h])
  have hw1 := hlt w1 hP
  have hP2 := hb _ _ hP hba
  have hsz2 : (w1.alloc (.cells (ps.map fun l => Value.string (bs l)).toArray 9)).heap.size = w1.heap.size + 1 := by simp
  generalize w1.alloc (.cells (ps.map fun l => Value.string (bs l)).toArray 9) = w2 at *
  clear hsp hw
  go_loopw [5, 22] (fun u i wr => ∃ (k : Nat) (cs : List Nat), k ≤ ps.length ∧ i = .int .i64 k ∧ ((ps.take k).mapM fun p => colOf p 9) = some cs ∧ wr.ownsRow w2.heap.size 3 1 u k (cs.map i64v) ∧ Below w2.heap.size w2 wr) (fun _ i _ => ps.length - (intOf i).toNat)
  case atStart => exact ⟨0, [], Nat.zero_le _, rfl, rfl, World.ownsRow_nil _ _ _ _, Below.refl _ _⟩
  case round =>
    obtain ⟨k, cs, hk, rfl, hcs, hown, hbel⟩ := hrel
    have HC : Hid _ := hcs
    clear hcs
    have hszr := hbel.size
    by_cases hltk : k < ps.length
    · have hc1 := H1.out k hltk
      rw [← hbel.cell (p := ⟨_, _, none⟩) (by simp; omega)] at hc1
      have hcol := fun w => readColumn_any (bs ps[k]) w (by have := HM.out ps[k] (List.getElem_mem hltk); rw [bs_size]; unfold maxLen; omega)
      rw [show (bs ps[k]).data.toList = ps[k] from rfl] at hcol
      cases hcc : colRaw ps[k] with
      | none =>
        rw [hcc] at hcol
        have hwr' := fun s => hwr wr s (hb _ _ hP2 hbel)
        go_wp2_with (first
          | (go_at_call 251; refine (hcol _).mono ?_; rintro e w' ⟨rfl, hw⟩; obtain rfl := hw.symm)
          | (go_at_call 159; refine (hwr' _).mono ?_; rintro e w5 ⟨te, pe, rfl, hE, hP5⟩))
        go_ret2
        refine ⟨?_, hP5⟩
        rw [mapM_none hltk hcc]
        exact ⟨te, pe, rfl, hE⟩
      | some c =>
        rw [hcc] at hcol
        have HH : Hid (colOf ps[k] 9 = some c) := Hid.mk hcc
        clear hcc
        have hc0 := (colOf_lt HH.out).2
        go_wp2_with (first
          | (go_at_call 251; refine (hcol _).mono ?_; rintro e w' ⟨rfl, hw⟩; obtain rfl := hw.symm)
          | (at_builtin; refine append_one rfl _ _ 27 rfl w2.heap.size 3 i0 (.int .i64 0) 8 Tryz.underlying27 hi hz0 hz1 hz2 rfl _ _ _ rfl hown (.int .i64 c) rfl rfl (by unfold maxLen; omega) (by omega) hbel.size ?_; intro v' w3 hown' hb1 _))
        go_roundw
        case rel =>
          refine ⟨k + 1, cs ++ [c], by omega, by go_num, ?_, ?_, hbel.trans hb1⟩
          · rw [List.take_succ_eq_append_getElem hltk]; exact mapM_snoc HC.out HH.out
          · rw [List.map_append]; exact hown'
        case measure => simp [intOf]; omega
    · go_wp2
      go_ret2
      refine ⟨?_, hb _ _ hP2 hbel⟩
      have h := HC.out
      rw [List.take_of_length_le (by omega)] at h
      rw [h]
      exact ⟨_, rfl, RdAt.of_own hown (by omega)⟩

/-- COLS. -/
theorem xcolumns (w0 w : World) (vs vw : Value) (ws : List (List UInt8)) (taken : Nat) (errno : Int) (rule : Bool) (hg : Glob w0) (h : RX w0 w vs vw ws taken errno rule) (ht : taken ≤ 16777216) :
    Calls Tryz.prog 289 #[.pointer (some ⟨w0.heap.size, 0, none⟩)] w fun e w' => PColsAns w0.heap.size errno (colsRaw (wordAt ws taken)) e w' ∧ RX w0 w' vs vw ws (taken + 1) errno rule ∧ Stp w0.heap.size w w' := by
  have hw := xword w0 w vs vw ws taken errno rule h ht
  have hxl := h.word_len taken
  generalize wordAt ws taken = x at *
  have hwr : ∀ w1 s, (RX w0 w1 vs vw ws (taken + 1) errno rule ∧ Stp w0.heap.size w w1) → Calls Tryz.prog 159 #[.pointer (some ⟨w0.heap.size, 0, none⟩), .string s] w1 fun e w' => ∃ te pe, e = .returned (.iface te pe) ∧ Err w' errno (.iface te pe) ∧ RX w0 w' vs vw ws (taken + 1) errno rule ∧ Stp w0.heap.size w w' := by
    rintro w1 s ⟨hX, hS⟩
    refine (xwrong w0 w1 w1 vs vw ws _ errno rule hX (Below.refl _ _) s).mono ?_
    rintro e w' ⟨te, pe, rfl, hE, hb⟩
    exact ⟨te, pe, rfl, hE, hX.below hb, hS.trans (Stp.of_below hb)⟩
  unfold colsRaw
  by_cases hx : x = [45]
  · subst hx
    rw [if_pos rfl]
    refine (pcols_dash _ w _ hw).mono ?_
    rintro e w' ⟨rfl, hP⟩
    exact ⟨⟨_, rfl, none, 0, rfl, fun i u hu => by simp at hu⟩, hP⟩
  · rw [if_neg hx]
    have hxb : (x == [45]) = false := by simpa using hx
    by_cases h18 : 18 ≤ x.length
    · rw [if_pos h18]
      refine (pcols_long _ x w _ (fun v w' => Err w' errno v ∧ RX w0 w' vs vw ws (taken + 1) errno rule ∧ Stp w0.heap.size w w') hxb h18 hxl hw hwr).mono ?_
      rintro e w' ⟨te, pe, rfl, hE, hP⟩
      exact ⟨⟨te, pe, rfl, hE⟩, hP⟩
    · rw [if_neg h18]
      refine pcols_go _ x w _ errno hxb (by omega) hw (fun w1 hP => hg.kept hP.1.bel) (fun w1 hP => hP.1.rd.lt) (fun w1 w2 hP hb => ⟨hP.1.below hb, hP.2.trans (Stp.of_below hb)⟩) hwr
end Go.Proofs.YtnpjldffciociaaGreatDoor
namespace Go.Proofs.YtnpjldffciociaaGreatDoor
open Go.RowKit

/-- all TABLE. -/
theorem xall (w0 w : World) (vs vw : Value) (ts : List (List UInt8 × List Bool)) (ws : List (List UInt8)) (taken : Nat) (errno : Int) (rule : Bool) (hs : ReadsTabs tcode w0 vs ts) (hl : ts.length ≤ 1048577) (hlp : ∀ t, t < ts.length → 1 ≤ (ts.getD t ([], [])).2.length) (h : RX w0 w vs vw ws taken errno rule) (ht : taken ≤ 16777216) :
    Calls Tryz.prog 198 #[.pointer (some ⟨w0.heap.size, 0, none⟩)] w fun e w' => OpAns w0 w vs vw ws errno rule (match findT ts (wordAt ws taken) with
      | none => none
      | some t => some ((ts.getD t ([], [])).2, taken + 1)) e w' := by
  have h1 := xtable w0 w vs vw ts ws taken errno rule h ht hs hl
  cases hf : findT ts (wordAt ws taken) with
  | none =>
    rw [hf] at h1
    refine (pall_no _ w (fun v w' => Err w' errno v ∧ Stp w0.heap.size w w') (h1.mono ?_)).mono ?_
    · rintro e w' ⟨⟨te, pe, rfl, hE⟩, hX, hS⟩; exact ⟨te, pe, rfl, hE, hS⟩
    · rintro e w' ⟨te, pe, rfl, hE, hS⟩
      exact OpAns.err hE hS (Below.refl _ _)
  | some t =>
    rw [hf] at h1
    have htl := findT_lt hf
    have he : ts.getD t ([], []) = ts[t] := by simp [List.getD, htl]
    obtain ⟨a0, cap0, hvs, hrow⟩ := id hs
    obtain ⟨sb, soff, tv, ha0, hsb, _, hc2, hrd⟩ := hrow t ts[t] (List.getElem?_eq_getElem htl)
    obtain ⟨ta, tc, rfl, _⟩ := id hrd
    refine (pall_yes _ t sb soff _ cap0 ta (ts[t].2.map tcode).length tc w (fun w' => RX w0 w' vs vw ws (taken + 1) errno rule ∧ Stp w0.heap.size w w') htl hl (h1.mono ?_)).mono ?_
    · rintro e w' ⟨rfl, hX', hS⟩
      refine ⟨rfl, ?_, (hX'.bel.cell (p := ⟨sb, soff + t * 2 + 1, none⟩) hsb).trans hc2, hX', hS⟩
      rw [← ha0, ← hvs]; exact hX'.rd.c0
    · rintro e w' ⟨w3, ⟨hX', hS⟩, hN⟩
      simp only
      rw [he]
      exact OpAns.new hX' hS ⟨RdAt.of_reads hrd hX'.bel, NilOk.of_pos hrd (by have := hlp t htl; rw [he] at this; rw [List.length_map]; omega)⟩ hN

/-- keep CONDITION VIEW. -/
theorem xkeep (w0 w : World) (vs vw : Value) (ts : List (List UInt8 × List Bool)) (ws : List (List UInt8)) (k taken : Nat) (errno : Int) (V : Nat → Option (List Bool × Nat)) (hg : Glob w0) (hs : ReadsTabs tcode w0 vs ts) (hl : ts.length ≤ 1048577) (hlc : ∀ t, (ts.getD t ([], [])).2.length ≤ 1048577)
    (h : RX w0 w vs vw ws taken errno false) (htk : taken ≤ ws.length) (hk : ws.length < taken + k)
    (hV : ∀ w1 i, taken < i → i ≤ ws.length → RX w0 w1 vs vw ws i errno false → Calls Tryz.prog 99 #[.pointer (some ⟨w0.heap.size, 0, none⟩)] w1 fun e w' => WAns w0 w1 vs vw ws errno false (V i) e w')
    (hV9 : ∀ i xs j, V i = some (xs, j) → xs.length ≤ 9) :
    Calls Tryz.prog 199 #[.pointer (some ⟨w0.heap.size, 0, none⟩)] w fun e w' => OpAns w0 w vs vw ws errno false (match parseC ts false ws k taken with
      | none => none
      | some (c, j) => match V j with
        | none => none
        | some (a, j2) => if fitC ts a c then some (a, j2) else none) e w' := by
  have h1 := xcond w0 vs vw ts ws errno false hg hs hl k w taken hk htk h
  have hlt := h.rd.lt
  cases hp : parseC ts false ws k taken with
  | none =>
    rw [hp] at h1
    refine (pkeep_cond _ w (fun v w' => Err w' errno v ∧ Stp w0.heap.size w w') (h1.mono ?_)).mono ?_
    · rintro e w' ⟨⟨te, pe, rfl, hE⟩, hS⟩; exact ⟨te, pe, rfl, hE, hS⟩
    · rintro e w' ⟨te, pe, rfl, hE, hS⟩
      exact OpAns.err hE hS (Below.refl _ _)
  | some p =>
    obtain ⟨c, j⟩ := p
    rw [hp] at h1
    have hok := parse_ok ts false ws _ _ _ _ hp
    obtain ⟨pl1, pl2, _⟩ := parse_len ts false ws _ _ _ _ hp
    have h1' : Calls Tryz.prog 243 #[.pointer (some ⟨w0.heap.size, 0, none⟩)] w fun e w' => ∃ b, e = .returned (.tuple #[.pointer (some ⟨b, 0, none⟩), .nilIface]) ∧ CndAt w'.heap.size w' c w.heap.size b ∧ RX w0 w' vs vw ws j errno false ∧ Stp w0.heap.size w w' := by
      refine h1.mono ?_
      rintro e w' ⟨⟨b, rfl, hC, hX'⟩, hS⟩
      exact ⟨b, rfl, hC, hX', hS⟩
    have h2 := fun (b : Nat) w1 (hP : CndAt w1.heap.size w1 c w.heap.size b ∧ RX w0 w1 vs vw ws j errno false ∧ Stp w0.heap.size w w1) => hV w1 j pl1 pl2 hP.2.1
    simp only
    cases hv : V j with
    | none =>
      rw [hv] at h2
      refine (pkeep_view _ w _ (fun v w' => Err w' errno v ∧ Stp w0.heap.size w w') h1' fun b w1 hP => (h2 b w1 hP).mono ?_).mono ?_
      · rintro e w' ⟨⟨te, pe, rfl, hE⟩, hS⟩; exact ⟨te, pe, rfl, hE, hP.2.2.trans hS⟩
      · rintro e w' ⟨te, pe, rfl, hE, hS⟩
        exact OpAns.err hE hS (Below.refl _ _)
    | some q =>
      obtain ⟨a, j2⟩ := q
      rw [hv] at h2
      have ha9 := hV9 _ _ _ hv
      have h2' : ∀ (b : Nat) w1, (CndAt w1.heap.size w1 c w.heap.size b ∧ RX w0 w1 vs vw ws j errno false ∧ Stp w0.heap.size w w1) → Calls Tryz.prog 99 #[.pointer (some ⟨w0.heap.size, 0, none⟩)] w1 fun e w' => ∃ b2 tv, e = .returned (.tuple #[.pointer (some ⟨b2, 0, none⟩), .nilIface]) ∧ w'.cell? ⟨b2, 6, none⟩ = some tv ∧
          (∃ hi, hi ≤ w'.heap.size ∧ CndAt hi w' c w.heap.size b) ∧ TyAt w0.heap.size w' tv a ∧ RX w0 w' vs vw ws j2 errno false ∧ Stp w0.heap.size w w' ∧ b2 < w'.heap.size ∧ w'.cell? ⟨b2, 6, none⟩ = some tv := by
        intro b w1 hP
        refine (h2 b w1 hP).mono ?_
        rintro e w' ⟨⟨b2, rfl, ⟨tv, hne, hc6, ht⟩, hX'⟩, hS⟩
        exact ⟨b2, tv, rfl, hc6, ⟨w1.heap.size, hS.size, hP.1.keep fun q hq1 hq2 => hS.block q hq2 (by simp; omega)⟩, ht, hX', hP.2.2.trans hS, World.block_lt_of_cell? w' _ hc6, hc6⟩
      have h3 : ∀ (b b2 : Nat) (tv : Value) w1, ((∃ hi, hi ≤ w1.heap.size ∧ CndAt hi w1 c w.heap.size b) ∧ TyAt w0.heap.size w1 tv a ∧ RX w0 w1 vs vw ws j2 errno false ∧ Stp w0.heap.size w w1 ∧ b2 < w1.heap.size ∧ w1.cell? ⟨b2, 6, none⟩ = some tv) →
          Calls Tryz.prog 244 #[.pointer (some ⟨w0.heap.size, 0, none⟩), .pointer (some ⟨b, 0, none⟩), tv] w1 fun e w' => FitAns (fitC ts a c) errno e w' ∧ Below w1.heap.size w1 w' := by
        rintro b b2 tv w1 ⟨⟨hi, hhi, hC⟩, ht, hX', hS, hb2, hc6⟩
        exact xfitG w0 vs vw tv ts a ws j2 errno false hs hl hlc (by omega) c w1 hi _ b hX' hhi hC hok ht.reads
      simp only
      cases hf : fitC ts a c with
      | false =>
        rw [hf] at h3
        refine (pkeep_fit _ w _ _ (fun v w' => Err w' errno v ∧ Stp w0.heap.size w w') h1' h2' fun b b2 tv w1 hP => (h3 b b2 tv w1 hP).mono ?_).mono ?_
        · rintro e w' ⟨hA, hb⟩
          obtain ⟨te, pe, rfl, hE⟩ : ∃ te pe, e = .returned (.iface te pe) ∧ Err w' errno (.iface te pe) := by simpa [FitAns] using hA
          exact ⟨te, pe, rfl, hE, hP.2.2.2.1.trans (Stp.of_below hb)⟩
        · rintro e w' ⟨te, pe, rfl, hE, hS⟩
          exact OpAns.err hE hS (Below.refl _ _)
      | true =>
        rw [hf] at h3
        refine (pkeep_yes _ w _ _ (fun tv w' => TyAt w0.heap.size w' tv a ∧ RX w0 w' vs vw ws j2 errno false ∧ Stp w0.heap.size w w') (fun tv w1 h => by obtain ⟨ta, tc, rfl⟩ := h.1.slice; exact ⟨_, _, _, rfl⟩) h1' h2' fun b b2 tv w1 hP => (h3 b b2 tv w1 hP).mono ?_).mono ?_
        · rintro e w' ⟨hA, hb⟩
          obtain ⟨_, ht, hX', hS, hb2, hc6⟩ := hP
          exact ⟨by simpa [FitAns] using hA, Nat.lt_of_lt_of_le hb2 hb.size, (hb.cell (p := ⟨b2, 6, none⟩) hb2).trans hc6, ht.below hb, hX'.below hb, hS.trans (Stp.of_below hb)⟩
        · rintro e w' ⟨tv, w3, ⟨ht, hX', hS⟩, hN⟩
          simp only [if_true]
          exact OpAns.new hX' hS ht hN
end Go.Proofs.YtnpjldffciociaaGreatDoor
