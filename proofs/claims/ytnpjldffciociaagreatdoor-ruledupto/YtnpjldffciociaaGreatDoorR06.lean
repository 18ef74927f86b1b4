import Derived.Test.YtnpjldffciociaaGreatDoorR05
namespace Go.Proofs.YtnpjldffciociaaGreatDoor
open Go.RowKit

set_option maxRecDepth 10000 in
set_option maxHeartbeats 2000000 in
theorem ru_mask_yes (b off len cap bt offt nt capt t n capn : Nat) (b2 off2 c : Nat) (kt ta r : Bool) (x1 x2 x3 : List UInt8) (w : World) (h1 : 1 < len) (hlen : len ≤ 1048577) (ht : t < nt) (_hnt : nt ≤ 1048577) (_hn : n ≤ 1048577)
    (hc0 : w.cell? ⟨b, off, none⟩ = some (.string (bs wMask))) (hct : w.cell? ⟨bt, offt + t * 2 + 1, none⟩ = some (.slice (some ⟨b2, off2, none⟩) n capn)) (hbt : bt < w.heap.size) (hb2 : b2 < w.heap.size) (hcn : c < n) (hta : w.cell? ⟨b2, off2 + c, none⟩ = some (.bool ta))
    (hw : Calls Tryz.prog 161 #[.slice (some ⟨b, off, none⟩) len cap, .int .i64 1] w fun e w' => e = .returned (.string (bs x1)) ∧ w' = w)
    (hw2 : ∀ m, Calls Tryz.prog 161 #[.slice (some ⟨b, off, none⟩) len cap, .int .i64 2] (w.drewN m) fun e w' => e = .returned (.string (bs x2)) ∧ w' = w.drewN m)
    (hw3 : ∀ m, Calls Tryz.prog 161 #[.slice (some ⟨b, off, none⟩) len cap, .int .i64 3] (w.drewN m) fun e w' => e = .returned (.string (bs x3)) ∧ w' = w.drewN m)
    (hf : Calls Tryz.prog 105 #[.slice (some ⟨bt, offt, none⟩) nt capt, .string (bs x1)] w fun e w' => e = .returned (.int .i64 t) ∧ w' = w)
    (hcol : ∀ m, Calls Tryz.prog 163 #[.string (bs x2), .int .i64 n] (w.drewN m) fun e w' => e = .returned (.int .i64 (c : Int)) ∧ w' = w.drewN m)
    (hv : ∀ m, Calls Tryz.prog 164 #[.string (bs x3)] (w.drewN m) fun e w' => (∃ nv S, e = .returned (.tuple #[.agg #[.bool kt, .int .i64 nv, .string S], .bool true])) ∧ Below w.heap.size w w')
    (hcd : ∀ W, Below w.heap.size w W → Calls Tryz.prog 162 #[.slice (some ⟨bt, offt, none⟩) nt capt, .slice (some ⟨b, off, none⟩) len cap, .int .i64 4, .int .i64 ((len : Int) - 4), .slice (some ⟨b2, off2, none⟩) n capn, .bool true] W fun e w' => e = .returned (.bool r) ∧ Below W.heap.size W w') :
    Calls Tryz.prog 110 #[.slice (some ⟨bt, offt, none⟩) nt capt, .slice (some ⟨b, off, none⟩) len cap] w fun e w' => e = .returned (.bool (kt == ta && r)) ∧ Below w.heap.size w w' := by
  cases kt <;> cases ta
  all_goals
    have hbs := bs_toList2
    have h0 : 0 < len := by omega
    have hti : 0 ≤ (t : Int) ∧ (t : Int) < (nt : Int) := by omega
    go_enter Tryz.func110, Tryz.ntmps110
    go_wp2_with (first
      | (go_at_call 161; with_reducible refine hw.mono ?_; rintro e w' ⟨rfl, rfl⟩)
      | (go_at_call 105; refine hf.mono ?_; rintro e w' ⟨rfl, rfl⟩))
    go_quiet (first | (go_at_call 161; exact quiet_c hw2 _) | (go_at_call 161; exact quiet_d hw2 _ _) | (go_at_call 163; exact quiet_c hcol _) | (go_at_call 163; exact quiet_d hcol _ _))
    go_wp2_with (first
      | (go_at_call 161; refine (hw3 _).mono ?_; rintro e w' ⟨rfl, rfl⟩)
      | (go_at_call 164; refine (hv _).mono ?_; rintro e w1 ⟨⟨nv, S, rfl⟩, hb1⟩; have hz := hb1.size))
    have hzt : bt < w1.heap.size := by omega
    have hz2 : b2 < w1.heap.size := by omega
    obtain ⟨hcc, _⟩ := bcell hb1
    have kct := (hcc bt (offt + t * 2 + 1) hbt).trans hct
    have kta := (hcc b2 (off2 + c) hb2).trans hta
    have hci : 0 ≤ (c : Int) ∧ (c : Int) < (n : Int) := by omega
    clear hw hw2 hw3 hf hcol hv hc0 hct hcc hta
    go_quiet (fail)
    have hB := fun o => below_drewN (hb1.alloc hz o) nq
    go_wp2_with (go_at_call 162; refine (hcd _ (hB _)).mono ?_; rintro e w3 ⟨rfl, hb3⟩)
    go_ret
    first
      | exact ⟨rfl, hB _⟩
      | exact ⟨by simp, (hB _).trans (hb3.mono (hB _).size)⟩
end Go.Proofs.YtnpjldffciociaaGreatDoor
namespace Go.Proofs.YtnpjldffciociaaGreatDoor
open Go.RowKit

/-- Is it a rule, by the document? -/
def ruleR (ts : List (List UInt8 × List Bool)) (ws : List (List UInt8)) : Bool :=
  match findT ts (wordAt ws 1) with
  | none => false
  | some t => if wordAt ws 0 = wAllow then condAt ts (typesOf ts t) true ws 2 (ws.length - 2)
    else if wordAt ws 0 = wMask then match colOf (wordAt ws 2) (typesOf ts t).length with
      | none => false
      | some c => match valKind (wordAt ws 3) with
        | none => false
        | some b => (b == (typesOf ts t).getD c false) && condAt ts (typesOf ts t) true ws 4 (ws.length - 4)
    else false
/-- THE DOCUMENT's isRule. -/
theorem isRule_any (vs vw : Value) (ts : List (List UInt8 × List Bool)) (ws : List (List UInt8)) (w : World) (hok : TabsOk ts) (hpos : 0 < ws.length) (hl : ws.length ≤ 1048577) (hwl : ∀ j, (wordAt ws j).length ≤ 1048577) (hv : ReadsTabs Value.bool w vs ts) (hvw : Reads w vw (ws.map fun l => .string (bs l))) :
    Calls Tryz.prog 110 #[vs, vw] w fun e w' => e = .returned (.bool (ruleR ts ws)) ∧ Below w.heap.size w w' := by
  have hlc : ∀ t, (ts.getD t ([], [])).2.length ≤ 1048577 := fun t => Nat.le_trans (hok.narrow t) (by decide)
  have hfew := hok.few
  have hw1 := word_any vw ws 1 w hvw (by omega)
  have hf := find_any vs ts (bs (wordAt ws 1)) w hv (by omega)
  rw [bs_toList] at hf
  unfold ruleR
  cases hft : findT ts (wordAt ws 1) with
  | none =>
    rw [hft] at hf
    exact (ru_none vs vw _ w hw1 hf).mono fun e w' ⟨h1, h2⟩ => ⟨h1, below_of_eq h2⟩
  | some t =>
    rw [hft] at hf
    obtain ⟨hw1l, htl⟩ := findT_word hok.named hft
    have hvr := id hvw
    obtain ⟨b, off, cap, rfl, hc⟩ := hvw.row (i := 0) hpos
    have hc0 : w.cell? ⟨b, off, none⟩ = some (.string (bs (wordAt ws 0))) := hc 0 hpos
    have hvs := id hv
    have he : ts.getD t ([], []) = ts[t] := by simp [List.getD, htl]
    obtain ⟨a0, cap0, rfl, hrow⟩ := hv
    obtain ⟨bt, offt, tv, ha0, hbt, _, hct, hrd⟩ := hrow t ts[t] (List.getElem?_eq_getElem htl)
    subst ha0
    have hcond := fun (W : World) (i : Nat) (hi : i ≤ 4) (hb : Below w.heap.size w W) => isCond_any ts ws ts[t].2 true hl hpos (by omega) hlc hwl (by rw [← he]; exact hlc t) (ws.length + 1) (.slice (some ⟨bt, offt, none⟩) ts.length cap0) (.slice (some ⟨b, off, none⟩) ws.length cap) tv i (ws.length - i) W (by omega) (by omega) (by omega) (hvs.below hb) (hvr.below hb) (hrd.below hb)
    simp only [typesOf, he]
    by_cases e0 : wordAt ws 0 = wAllow
    · rw [if_pos e0]
      rw [e0] at hc0
      have h2 := hcond w 2 (by omega) (Below.refl _ _)
      have e2 : ((ws.length - 2 : Nat) : Int) = (ws.length : Int) - 2 := by omega
      rw [e2] at h2
      exact ru_allow b off _ cap bt offt _ cap0 t tv _ _ w hw1l hl htl (by omega) hc0 hct hw1 hf h2
    · rw [if_neg e0]
      by_cases e1 : wordAt ws 0 = wMask
      · rw [if_pos e1]
        rw [e1] at hc0
        obtain ⟨at_, capn, rfl, hcells⟩ := id hrd
        rw [List.length_map] at hct hcond
        have hn : ts[t].2.length ≤ 1048577 := by rw [← he]; exact hlc t
        have hw2 : ∀ m, Calls Tryz.prog 161 #[.slice (some ⟨b, off, none⟩) ws.length cap, .int .i64 2] (w.drewN m) fun e w' => e = .returned (.string (bs (wordAt ws 2))) ∧ w' = w.drewN m := fun m => word_any _ ws 2 (w.drewN m) hvr (by omega)
        have hw3 : ∀ m, Calls Tryz.prog 161 #[.slice (some ⟨b, off, none⟩) ws.length cap, .int .i64 3] (w.drewN m) fun e w' => e = .returned (.string (bs (wordAt ws 3))) ∧ w' = w.drewN m := fun m => word_any _ ws 3 (w.drewN m) hvr (by omega)
        have hcol := fun m => column_any (bs (wordAt ws 2)) ts[t].2.length (w.drewN m) (by have := hwl 2; simp [maxLen]; omega)
        rw [bs_toList] at hcol
        have hval : ∀ m, Calls Tryz.prog 164 #[.string (bs (wordAt ws 3))] (w.drewN m) fun e w' => ValAns (valKind (wordAt ws 3)) e ∧ Below w.heap.size w w' := fun m => by
          have := readValue_any (bs (wordAt ws 3)) (w.drewN m) (by have := hwl 3; simpa using this)
          rw [bs_toList] at this
          exact this.mono fun e w' ⟨g1, g2⟩ => ⟨g1, (below_drewN' w m).trans g2⟩
        cases hcc : colOf (wordAt ws 2) ts[t].2.length with
        | none =>
          rw [hcc] at hcol
          refine ru_mask_nocol b off _ cap bt offt _ cap0 t _ capn at_ (valKind (wordAt ws 3) == some true) (valKind (wordAt ws 3)).isSome _ _ _ w hw1l hl htl (by omega) hn hc0 hct hbt hw1 hw2 hw3 hf hcol fun m => (hval m).mono ?_
          rintro e w' ⟨⟨nv, S, h⟩, hb⟩
          exact ⟨⟨nv, S, h⟩, hb⟩
        | some c =>
          rw [hcc] at hcol
          have hcn := (colOf_lt hcc).1
          simp only
          cases hk : valKind (wordAt ws 3) with
          | none =>
            rw [hk] at hval
            refine ru_mask_noval b off _ cap bt offt _ cap0 t _ capn at_ c false _ _ _ w hw1l hl htl (by omega) hn hcn hc0 hct hbt hw1 hw2 hw3 hf hcol fun m => (hval m).mono ?_
            rintro e w' ⟨⟨nv, S, h⟩, hb⟩
            exact ⟨⟨nv, S, h⟩, hb⟩
          | some kb =>
            rw [hk] at hval
            obtain ⟨b2, off2, hat, hb2, hta⟩ := hcells c (.bool (ts[t].2.getD c false)) (by simp [hcn, List.getD])
            subst hat
            have hw3l := valKind_lt hk
            have e4 : ((ws.length - 4 : Nat) : Int) = (ws.length : Int) - 4 := by omega
            refine ru_mask_yes b off _ cap bt offt _ cap0 t _ capn b2 off2 c kb _ _ _ _ _ w hw1l hl htl (by omega) hn hc0 hct hbt hb2 hcn hta hw1 hw2 hw3 hf hcol (fun m => (hval m).mono ?_) fun W hb => ?_
            · rintro e w' ⟨⟨nv, S, h⟩, hb⟩
              exact ⟨⟨nv, S, by rw [h]; cases kb <;> rfl⟩, hb⟩
            · have h4 := hcond W 4 (by omega) hb
              rw [e4] at h4
              exact h4
      · rw [if_neg e1]
        refine (ru_else b off _ cap bt offt _ cap0 t _ _ w hw1l hl (by simpa using e0) (by simpa using e1) hc0 hw1 hf).mono ?_
        rintro e w' ⟨h1, h2⟩
        exact ⟨h1, below_of_eq h2⟩
end Go.Proofs.YtnpjldffciociaaGreatDoor
