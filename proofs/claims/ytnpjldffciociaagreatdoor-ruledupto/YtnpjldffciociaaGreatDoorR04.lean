import Derived.Test.YtnpjldffciociaaGreatDoorR03
namespace Go.Proofs.YtnpjldffciociaaGreatDoor
open Go.RowKit

theorem RX.drew1 {w0 w : World} {vs vw : Value} {ws : List (List UInt8)} {taken : Nat} {errno : Int} {rule : Bool} (h : RX w0 w vs vw ws taken errno rule) : RX w0 w.drew vs vw ws taken errno rule := h.below (Below.refl _ _).drew
theorem xrule (bw w0 w : World) (vs vw : Value) (ts : List (List UInt8 × List Bool)) (ws : List (List UInt8)) (errno : Int) (lb wb : Nat) (rs : Nat → Rl) (H : Start bw w0 vs vw ts ws lb wb rs) (hX : RX w0 w vs vw ws 0 errno true) :
    Calls Tryz.prog 109 #[.pointer (some ⟨w0.heap.size, 0, none⟩), .slice (some ⟨lb, 0, none⟩) ts.length ts.length] w fun e w' => RAns 1100000000001 w0 lb ts.length rs (ruleP ts rs ws) errno e w' := by
  have hlb : lb < w0.heap.size := H.law.lt
  have hvw := H.vw
  have hw := xword w0 w vs vw ws 0 errno true hX (by omega)
  have htb : ReadsTabs tcode w0 vs ts := H.base.tabs.below H.bel
  have h1 := fun w1 (hP : RX w0 w1 vs vw ws 1 errno true ∧ Stp w0.heap.size w w1) => xtable w0 w1 vs vw ts ws 1 errno true hP.1 (by omega) htb H.base.ok.few
  unfold ruleP allowP maskP
  cases hf : findT ts (wordAt ws 1) with
  | none =>
    rw [hf] at h1
    have h1' : ∀ w1, (RX w0 w1 vs vw ws 1 errno true ∧ Stp w0.heap.size w w1) → Calls Tryz.prog 160 #[.pointer (some ⟨w0.heap.size, 0, none⟩)] w1 fun e w' => ∃ te pe, e = .returned (.tuple #[.int .i64 0, .iface te pe]) ∧ (Err w' errno (.iface te pe) ∧ Stp w0.heap.size w w') := fun w1 hP => (h1 w1 hP).mono fun e w' ⟨⟨te, pe, he, hE⟩, _, hS⟩ => ⟨te, pe, he, hE, hP.2.trans hS⟩
    simp only
    by_cases ha : wordAt ws 0 = wAllow
    · rw [if_pos ha]
      rw [ha] at hw
      refine (prule_allow_no _ lb _ w _ (fun v w' => Err w' errno v ∧ Stp w0.heap.size w w') hw h1').mono ?_
      rintro e w' ⟨te, pe, rfl, hE, hS⟩
      exact RAns.err hX hE hS (Nat.le_of_lt hlb)
    · rw [if_neg ha]
      by_cases hm : wordAt ws 0 = wMask
      · rw [if_pos hm]
        rw [hm] at hw
        refine (prule_mask_no _ lb _ w _ (fun v w' => Err w' errno v ∧ Stp w0.heap.size w w') hw h1').mono ?_
        rintro e w' ⟨te, pe, rfl, hE, hS⟩
        exact RAns.err hX hE hS (Nat.le_of_lt hlb)
      · rw [if_neg hm]
        refine (prule_none _ lb _ _ w _ (fun v w' => Err w' errno v ∧ Stp w0.heap.size w w') (by simpa using ha) (by simpa using hm) hw fun w1 s hP => (xwrong w0 w1 w1 vs vw ws 1 errno true hP.1 (Below.refl _ _) s).mono ?_).mono ?_
        · rintro e w' ⟨te, pe, rfl, hE, hb⟩
          exact ⟨te, pe, rfl, hE, hP.2.trans (Stp.of_below hb)⟩
        · rintro e w' ⟨te, pe, rfl, hE, hS⟩
          exact RAns.err hX hE hS (Nat.le_of_lt hlb)
  | some t =>
    rw [hf] at h1
    obtain ⟨hw1, htl⟩ := findT_word H.base.ok.named hf
    have he : ts.getD t ([], []) = ts[t] := by simp [List.getD, htl]
    obtain ⟨a0, cap0, hvs, hrow⟩ := id H.base.tabs
    obtain ⟨sb, soff, tv, ha0, hsb, _, hc2, hrdb⟩ := hrow t ts[t] (List.getElem?_eq_getElem htl)
    have hrd0 : Reads bw tv ((typesOf ts t).map tcode) := by rw [typesOf, he]; exact hrdb
    obtain ⟨ta, tc, htv, _⟩ := id hrd0
    have hsl : sb < lb := Nat.lt_of_lt_of_le hsb H.le
    -- the words are laid to those of the table
    have hta : ∀ w1, (RX w0 w1 vs vw ws 1 errno true ∧ Stp w0.heap.size w w1) → Calls Tryz.prog 160 #[.pointer (some ⟨w0.heap.size, 0, none⟩)] w1 fun e w' => e = .returned (.tuple #[.int .i64 t, .nilIface]) ∧ w'.cell? ⟨w0.heap.size, 1, none⟩ = some (.slice (some ⟨wb, 0, none⟩) ws.length ws.length) ∧ w'.cell? ⟨lb, t * 3, none⟩ = some (.string (rs t).wd) ∧ (RX w0 w' vs vw ws 2 errno true ∧ Stp w0.heap.size w w') := by
      intro w1 hP
      refine (h1 w1 hP).mono ?_
      rintro e w' ⟨rfl, hX', hS⟩
      refine ⟨rfl, ?_, ((H.law.below hX'.bel).blk.cells htl).1, hX', hP.2.trans hS⟩
      rw [← hvw]; exact hX'.rd.c1
    have hj : ∀ w1, (RX w0 w1 vs vw ws 2 errno true ∧ Stp w0.heap.size w w1) → Calls Tryz.prog 102 #[.slice (some ⟨wb, 0, none⟩) ws.length ws.length, .string ⟨#[32]⟩] w1 fun e w' => ∃ S : ByteArray, e = .returned (.string S) ∧ w'.cell? ⟨lb, t * 3, none⟩ = some (.string (rs t).wd) ∧ w'.frozen? ⟨lb, t * 3, none⟩ = false ∧ w'.cell? ⟨w0.heap.size, 0, none⟩ = some (.slice (some ⟨sb, soff, none⟩) ts.length cap0) ∧ w'.cell? ⟨sb, soff + t * 2 + 1, none⟩ = some (.slice ta ((typesOf ts t).map tcode).length tc) ∧ S.size ≤ 1100000000000 ∧ (RX w0 w' vs vw ws 2 errno true ∧ Stp w0.heap.size w w') := by
      intro w1 hP
      have hp := pwords w0 w1 vs ws 2 errno true wb 0 ws.length ws.length (hvw ▸ hP.1) (by have := H.ne; omega) (Nat.le_refl _) (Nat.le_refl _)
      refine hp.mono ?_
      rintro e w' ⟨S, rfl, hSz, hb⟩
      have hX' := hP.1.below hb
      have hL := H.law.below hX'.bel
      refine ⟨S, rfl, (hL.blk.cells htl).1, hL.blk.frozen _, ?_, ?_, hSz, hX', hP.2.trans (Stp.of_below hb)⟩
      · rw [← ha0, ← hvs]; exact hX'.rd.c0
      · rw [← htv]; exact ((H.bel.trans (hX'.bel.mono H.bel.size)).cell (p := ⟨sb, soff + t * 2 + 1, none⟩) hsb).trans hc2
    have hd : ∀ w1, (RX w0 w1 vs vw ws 2 errno true ∧ Stp w0.heap.size w w1) → (RX w0 w1.drew vs vw ws 2 errno true ∧ Stp w0.heap.size w w1.drew) := fun w1 hP => ⟨hP.1.drew1, hP.2.trans (Stp.of_below (Below.refl _ _).drew)⟩
    have hz : ∀ S, (w0.setCell ⟨lb, t * 3, none⟩ (.string S)).heap.size = w0.heap.size := fun S => by simp [World.setCell]
    have hk : ∀ S, Kp lb w0 (w0.setCell ⟨lb, t * 3, none⟩ (.string S)) := fun S => Kp.set H.law.blk _ _
    simp only
    by_cases ha : wordAt ws 0 = wAllow
    · rw [if_pos ha]
      rw [ha] at hw
      refine (prule_allow _ lb _ t wb _ sb soff _ cap0 ta _ tc (rs t).wd (H.wd t) w _ _ _ (fun v w' => RAns 1100000000001 w0 lb ts.length rs (match condAt ts (typesOf ts t) true ws 2 (ws.length - 2) with
          | true => some none
          | false => none) errno (.returned v) w') htl H.base.ok.few htl H.base.ok.few (by omega) (by omega) hd hw hta hj fun w1 S hP hS => ?_).mono ?_
      · have hX2 := (hP.1.set hlb hvw H.wb (t * 3) (.string S)).drew1
        have hH := H.hand htl S
        have := xallow (w0.setCell ⟨lb, t * 3, none⟩ (.string S)) _ vs vw tv ts ws errno lb t _ hH hX2 htl (by omega) (hrd0.below (H.bel.setCell (p := ⟨lb, t * 3, none⟩) H.le _))
        rw [hz, htv] at this
        exact RAns.calls (this.mono fun e w' h => h.wide hS (hk S))
      · rintro e w' ⟨v, rfl, h⟩; exact h
    · rw [if_neg ha]
      by_cases hm : wordAt ws 0 = wMask
      · rw [if_pos hm]
        rw [hm] at hw
        refine (prule_mask _ lb _ t wb _ sb soff _ cap0 ta _ tc (rs t).wd (H.wd t) w _ _ _ (fun v w' => RAns 1100000000001 w0 lb ts.length rs (match maskQ ts ws t with
          | none => none
          | some (t, c) => if hasMask (rs t).ms c then none else some (some (t, c))) errno (.returned v) w') htl H.base.ok.few htl H.base.ok.few (by omega) (by omega) hd hw hta hj fun w1 S hP hS => ?_).mono ?_
        · have hX2 := (hP.1.set hlb hvw H.wb (t * 3) (.string S)).drew1
          have hH := H.hand htl S
          have := xmask (w0.setCell ⟨lb, t * 3, none⟩ (.string S)) _ vs vw tv ts ws errno lb t _ hH hX2 htl (hrd0.below (H.bel.setCell (p := ⟨lb, t * 3, none⟩) H.le _))
          rw [hz, htv] at this
          have hms : ∀ i, (updR rs t { rs t with wd := S } i).ms = (rs i).ms := fun i => by
            by_cases hi : i = t
            · subst hi; rw [updR_at]
            · rw [updR_ne _ _ _ hi]
          simp only [hms] at this
          exact RAns.calls (this.mono fun e w' h => h.wide hS (hk S))
        · rintro e w' ⟨v, rfl, h⟩; exact h
      · rw [if_neg hm]
        refine (prule_none _ lb _ _ w _ (fun v w' => Err w' errno v ∧ Stp w0.heap.size w w') (by simpa using ha) (by simpa using hm) hw fun w1 s hP => (xwrong w0 w1 w1 vs vw ws 1 errno true hP.1 (Below.refl _ _) s).mono ?_).mono ?_
        · rintro e w' ⟨te, pe, rfl, hE, hb⟩
          exact ⟨te, pe, rfl, hE, hP.2.trans (Stp.of_below hb)⟩
        · rintro e w' ⟨te, pe, rfl, hE, hS⟩
          exact RAns.err hX hE hS (Nat.le_of_lt hlb)
end Go.Proofs.YtnpjldffciociaaGreatDoor
namespace Go.Proofs.YtnpjldffciociaaGreatDoor
open Go.RowKit

/-- A rule, given the masks ahead of it. -/
def ruleK (ts : List (List UInt8 × List Bool)) (ks : List (Nat × Nat)) (ws : List (List UInt8)) : Option (Option (Nat × Nat)) :=
  if wordAt ws 0 = wAllow then match allowP ts ws with
    | true => some none
    | false => none
  else if wordAt ws 0 = wMask then match maskP ts ws with
    | none => none
    | some k => if ks.contains k then none else some (some k)
  else none
/-- Rules, one after the other. -/
def lawGo (ts : List (List UInt8 × List Bool)) : List (Nat × Nat) → List (List UInt8) → Bool
  | _, [] => true
  | ks, p :: r => match ruleK ts ks (spl 32 p) with
    | none => false
    | some none => lawGo ts ks r
    | some (some k) => lawGo ts (ks ++ [k]) r
/-- What ReadLaw takes. -/
def lawP (ts : List (List UInt8 × List Bool)) (l : List UInt8) : Bool := l.isEmpty || (decide (l.count 32 + l.count 59 < 60) && lawGo ts [] (spl 59 l))
def nextK (ks : List (Nat × Nat)) : Option (Nat × Nat) → List (Nat × Nat)
  | none => ks
  | some k => ks ++ [k]
theorem lg_no {ts : List (List UInt8 × List Bool)} {ks : List (Nat × Nat)} {p : List UInt8} {r : List (List UInt8)} (h : ruleK ts ks (spl 32 p) = none) : lawGo ts ks (p :: r) = false := by simp [lawGo, h]
theorem lg_yes {ts : List (List UInt8 × List Bool)} {ks : List (Nat × Nat)} {p : List UInt8} {r : List (List UInt8)} {q : Option (Nat × Nat)} (h : ruleK ts ks (spl 32 p) = some q) : lawGo ts ks (p :: r) = lawGo ts (nextK ks q) r := by
  cases q <;> simp [lawGo, h, nextK]
/-- The masks in memory are those of the list. -/
def KeyOk (n : Nat) (rs : Nat → Rl) (ks : List (Nat × Nat)) : Prop := ∀ t c, t < n → hasMask (rs t).ms c = ks.contains (t, c)
theorem KeyOk.step {n B : Nat} {rs rs' : Nat → Rl} {ks : List (Nat × Nat)} {q : Option (Nat × Nat)} (h : KeyOk n rs ks) (hs : StepR B rs rs' q) : KeyOk n rs' (nextK ks q) := by
  obtain ⟨_, _, h3⟩ := hs
  intro t c ht
  cases q with
  | none => rw [h3 t]; exact h t c ht
  | some k =>
    obtain ⟨t0, c0⟩ := k
    obtain ⟨m, hm, h4, h5⟩ := h3
    show _ = (ks ++ [(t0, c0)]).contains (t, c)
    rw [List.contains_eq_any_beq, List.any_append, ← List.contains_eq_any_beq, ← h t c ht]
    by_cases ht0 : t = t0
    · subst ht0
      rw [h4]
      simp [hasMask, hm, Bool.beq_eq_decide_eq, eq_comm]
    · rw [h5 t ht0]
      simp [ht0]
theorem maskP_lt {ts : List (List UInt8 × List Bool)} {ws : List (List UInt8)} {t c : Nat} (h : maskP ts ws = some (t, c)) : t < ts.length := by
  unfold maskP maskQ at h
  split at h
  · cases h
  · rename_i t0 hf
    have := findT_lt hf
    split at h
    · cases h
    · split at h
      · cases h
      · split at h
        · cases h; exact this
        · cases h
theorem ruleP_key {ts : List (List UInt8 × List Bool)} {rs : Nat → Rl} {ks : List (Nat × Nat)} (hk : KeyOk ts.length rs ks) (ws : List (List UInt8)) : ruleP ts rs ws = ruleK ts ks ws := by
  unfold ruleP ruleK
  split
  · rfl
  · split
    · cases hm : maskP ts ws with
      | none => rfl
      | some k => obtain ⟨t, c⟩ := k; simp only [hk t c (maskP_lt hm)]
    · rfl
theorem reads_new (w : World) (xs : List Value) (t : TypeId) (cap : Nat) : Reads (w.alloc (.cells xs.toArray t)) (.slice (some ⟨w.heap.size, 0, none⟩) xs.length cap) xs :=
  ⟨_, _, rfl, fun i u h => ⟨w.heap.size, 0, rfl, by simp, by rw [World.cell?_alloc_at _ _ _ _ rfl]; simpa using h⟩⟩
def noRl : Nat → Rl := fun _ => ⟨ByteArray.empty, .slice none 0 0, .slice none 0 0, 0, [], []⟩
theorem KeyOk.none (n : Nat) : KeyOk n noRl [] := fun _ _ _ => rfl
theorem made_at (a b c : Value) (n i j : Nat) (hi : i < n) (hj : j < 3) : (madeCells #[a, b, c] (n * 3))[i * 3 + j]? = (#[a, b, c])[j]? := by
  have h : i * 3 + j < n * 3 := by omega
  have hm : (i * 3 + j) % 3 = j := by omega
  unfold madeCells
  rw [Array.getElem?_map]
  simp only [Array.getElem?_range, h, if_true, Option.map_some]
  have hs : (#[a, b, c] : Array Value).size = 3 := rfl
  rw [hs, hm]
  match j, hj with
  | 0, _ => rfl
  | 1, _ => rfl
  | 2, _ => rfl
theorem LawAt.new {w w3 : World} {n : Nat} (h : w3.ownsRow w.heap.size 258 3 (.slice (some ⟨w.heap.size, 0, none⟩) n n) n (madeCells #[.string ByteArray.empty, .slice none 0 0, .slice none 0 0] (n * 3)).toList) : LawAt w3 w.heap.size n noRl := by
  refine ⟨?_, fun i _ => World.ownsRow_nil _ _ _ _, fun i _ => World.ownsRow_nil _ _ _ _, fun _ _ _ _ _ => Or.inl rfl, fun _ _ _ _ _ => Or.inl rfl⟩
  rcases h.2 with ⟨h0, _⟩ | ⟨g, cap, cur, he, _, hh, _, _, hz, ht⟩
  · cases h0
  · simp at he
    obtain ⟨rfl, rfl⟩ := he
    have hk : ∀ k, k < n * 3 → cur[k]? = (madeCells #[.string ByteArray.empty, .slice none 0 0, .slice none 0 0] (n * 3))[k]? := by
      intro k hk
      have := congrArg (fun l => l[k]?) ht
      simp only [List.getElem?_take, hk, if_true] at this
      simpa using this
    refine ⟨cur, hh, fun i hi => ⟨?_, ?_, ?_⟩⟩
    · have h1 := hk (i * 3) (by omega)
      have h2 := made_at (.string ByteArray.empty) (.slice none 0 0) (.slice none 0 0) n i 0 hi (by omega)
      rw [Nat.add_zero] at h2
      rw [h1, h2]; rfl
    · rw [hk _ (by omega), made_at _ _ _ n i 1 hi (by omega)]; rfl
    · rw [hk _ (by omega), made_at _ _ _ n i 2 hi (by omega)]; rfl
/-- One round's call: the reader is new. -/
theorem rule_new (bw wr : World) (vs : Value) (ts : List (List UInt8 × List Bool)) (ws : List (List UInt8)) (lb : Nat) (rs : Nat → Rl) (ks : List (Nat × Nat)) (hB : Base bw vs ts) (hbl : bw.heap.size ≤ lb) (hbw : Below bw.heap.size bw wr) (hL : LawAt wr lb ts.length rs) (hK : KeyOk ts.length rs ks) (hna : ∀ i, (rs i).na ≤ 1000) (hnm : ∀ i, (rs i).ms.length ≤ 1000) (hwd : ∀ i, (rs i).wd.size ≤ 70000000000000) (hw1 : 1 ≤ ws.length) (hwl : ws.length ≤ 1048577) (hws : ∀ l ∈ ws, l.length ≤ 1048577) :
    Calls Tryz.prog 109 #[.pointer (some ⟨wr.heap.size + 1, 0, none⟩), .slice (some ⟨lb, 0, none⟩) ts.length ts.length] ((wr.alloc (.cells (ws.map fun l => Value.string (bs l)).toArray 9)).alloc (.cells #[vs, .slice (some ⟨wr.heap.size, 0, none⟩) ws.length ws.length, .int .i64 0, .int .i64 4, .bool true] 182))
      fun e w' => (match ruleK ts ks ws with
        | none => ∃ te pe, e = .returned (.iface te pe) ∧ Err w' 4 (.iface te pe)
        | some q => e = .returned .nilIface ∧ ∃ rs', LawAt w' lb ts.length rs' ∧ StepR 1100000000001 rs rs' q) ∧ Kp lb wr w' := by
  have hlb : lb < wr.heap.size := hL.lt
  have hb : Below wr.heap.size wr (wr.alloc (.cells (ws.map fun l => Value.string (bs l)).toArray 9)) := (Below.refl _ _).alloc (Nat.le_refl _) _
  have hrd := reads_new wr (ws.map fun l => Value.string (bs l)) 9 ws.length
  rw [List.length_map] at hrd
  have hsz : (wr.alloc (.cells (ws.map fun l => Value.string (bs l)).toArray 9)).heap.size = wr.heap.size + 1 := by simp
  generalize wr.alloc (.cells (ws.map fun l => Value.string (bs l)).toArray 9) = w0 at *
  have hX : RX w0 (w0.alloc (.cells #[vs, .slice (some ⟨wr.heap.size, 0, none⟩) ws.length ws.length, .int .i64 0, .int .i64 4, .bool true] 182)) vs (.slice (some ⟨wr.heap.size, 0, none⟩) ws.length ws.length) ws 0 4 true :=
    ⟨⟨by simp, by simp, by simp, by simp, by simp, by simp, by simp⟩, (Below.refl _ _).alloc (Nat.le_refl _) _, RdAt.of_reads hrd ((Below.refl _ _).alloc (Nat.le_refl _) _), hwl, hws⟩
  have H : Start bw w0 vs (.slice (some ⟨wr.heap.size, 0, none⟩) ws.length ws.length) ts ws lb wr.heap.size rs := ⟨hB, hbl, hbw.trans (hb.mono hbw.size), hL.below hb, hna, hnm, hwd, rfl, by omega, hw1⟩
  have h := xrule bw w0 _ vs _ ts ws 4 lb wr.heap.size rs H hX
  rw [hsz, ruleP_key hK] at h
  refine h.mono ?_
  rintro e w' ⟨h1, h2⟩
  exact ⟨h1, (Kp.of_below hb (Nat.le_of_lt hlb)).trans h2⟩

theorem Err.new' (w : World) (n : Int) (s : ByteArray) (m : Nat) (hm : m = w.heap.size) : Err (w.alloc (.cells #[.int .i64 n, .string s] 179)) n (.iface 175 (.pointer (some ⟨m, 0, none⟩))) := by
  subst hm; exact Err.new w n s
/-- What ReadLaw answers. -/
def LawAns (w : World) (ok : Bool) (e : Ending) : Prop :=
  ∃ v ev, e = .returned (.tuple #[v, ev]) ∧ match ok with
    | true => ev = .nilIface
    | false => Err w 4 ev

theorem Tryz.infoRules : (Tryz.prog.info? 258).map (fun i => (i.zero, i.size, i.bytes)) = some (some (.agg #[.string ByteArray.empty, .slice none 0 0, .slice none 0 0]), 3, 64) := by kernel_rfl
theorem spl_pos (c : UInt8) (l : List UInt8) : 1 ≤ (spl c l).length := by
  have := spl_length c l
  omega
set_option maxRecDepth 10000 in
set_option maxHeartbeats 1000000 in
theorem plawFault (s : ByteArray) (w : World) :
    Calls Tryz.prog 108 #[.string s] w fun e w' => (∃ te pe, e = .returned (.iface te pe) ∧ Err w' 4 (.iface te pe)) ∧ Below w.heap.size w w' := by
  go_enter Tryz.func108, Tryz.ntmps108
  go_wp2
  go_ret
  exact ⟨⟨_, _, rfl, Err.new' _ _ _ _ rfl⟩, (Below.refl _ _).alloc (Nat.le_refl _) _⟩
set_option maxRecDepth 10000 in
set_option maxHeartbeats 1000000 in
theorem rl_empty (a : Option Addr) (n cap : Nat) (w : World) (hn : n ≤ 1048577) :
    Calls Tryz.prog 64 #[.slice a n cap, .string ByteArray.empty] w fun e w' => LawAns w' true e ∧ Below w.heap.size w w' := by
  obtain ⟨i0, hi0, hz0, hz1, hz2⟩ := info_parts Tryz.infoRules
  go_enter Tryz.func64, Tryz.ntmps64
  go_wp2_with (at_make; refine wpList_make_full _ rfl _ _ 122 rfl w.heap.size 258 i0 _ 3 Tryz.underlying122 hi0 hz0 hz1 _ _ _ _ n rfl rfl rfl rfl (by rw [hz2]; omega) (by unfold maxLen; omega) (Nat.le_refl _) ?_; intro w3 _ hgrow3)
  go_ret2
  exact ⟨⟨_, _, rfl, rfl⟩, (Below.refl _ _).grown hgrow3 (Nat.le_refl _) (by intro k hk; cases hk)⟩
set_option maxRecDepth 10000 in
set_option maxHeartbeats 1000000 in
theorem rl_many (a : Option Addr) (n cap : Nat) (s : ByteArray) (w : World) (k1 k2 : Nat) (hn : n ≤ 1048577) (he : s.toList.isEmpty = false) (h60 : 60 ≤ k1 + k2) (hk1 : k1 ≤ 4194304) (hk2 : k2 ≤ 4194304)
    (hc1 : ∀ w, Calls Tryz.prog 92 #[.string s, .string ⟨#[32]⟩] w fun e w' => e = .returned (.int .i64 k1) ∧ w' = w)
    (hc2 : ∀ w, Calls Tryz.prog 92 #[.string s, .string ⟨#[59]⟩] w fun e w' => e = .returned (.int .i64 k2) ∧ w' = w) :
    Calls Tryz.prog 64 #[.slice a n cap, .string s] w fun e w' => LawAns w' false e ∧ Below w.heap.size w w' := by
  obtain ⟨i0, hi0, hz0, hz1, hz2⟩ := info_parts Tryz.infoRules
  go_enter Tryz.func64, Tryz.ntmps64
  go_wp2_with (first
    | (at_make; refine wpList_make_full _ rfl _ _ 122 rfl w.heap.size 258 i0 _ 3 Tryz.underlying122 hi0 hz0 hz1 _ _ _ _ n rfl rfl rfl rfl (by rw [hz2]; omega) (by unfold maxLen; omega) (Nat.le_refl _) ?_; intro w3 _ hgrow3; have hb3 : Below w.heap.size w w3 := (Below.refl _ _).grown hgrow3 (Nat.le_refl _) (by intro k hk; cases hk); clear hgrow3)
    | (go_at_call 92; with_reducible refine (hc1 _).mono ?_; rintro e w' ⟨rfl, hw⟩; obtain rfl := hw.symm)
    | (go_at_call 92; with_reducible refine (hc2 _).mono ?_; rintro e w' ⟨rfl, hw⟩; obtain rfl := hw.symm)
    | (go_at_call 108; refine (plawFault _ _).mono ?_; rintro e w4 ⟨⟨te, pe, rfl, hE⟩, hb4⟩))
  go_ret2
  exact ⟨⟨_, _, rfl, hE⟩, hb3.trans (hb4.mono hb3.size)⟩
end Go.Proofs.YtnpjldffciociaaGreatDoor
namespace Go.Proofs.YtnpjldffciociaaGreatDoor
open Go.RowKit

/-- How far the rules have been read. -/
structure LawInv (ts : List (List UInt8 × List Bool)) (R : Bool) (ps : List (List UInt8)) (lb : Nat) (w1 wr : World) (k : Nat) (rs : Nat → Rl) (ks : List (Nat × Nat)) : Prop where
  go : R = lawGo ts ks (ps.drop k)
  key : KeyOk ts.length rs ks
  na : ∀ i, (rs i).na ≤ k
  nm : ∀ i, (rs i).ms.length ≤ k
  wd : ∀ i, (rs i).wd.size ≤ k * 1100000000001
  law : LawAt wr lb ts.length rs
  kp : Kp lb w1 wr
theorem ms_step {B : Nat} {rs rs' : Nat → Rl} {q : Option (Nat × Nat)} (h : StepR B rs rs' q) (i : Nat) : (rs' i).ms.length ≤ (rs i).ms.length + 1 := by
  obtain ⟨_, _, h3⟩ := h
  cases q with
  | none => rw [h3 i]; omega
  | some k =>
    obtain ⟨m, _, h4, h5⟩ := h3
    by_cases hi : i = k.1
    · subst hi; rw [h4]; simp
    · rw [h5 i hi]; omega
theorem LawInv.step {ts : List (List UInt8 × List Bool)} {R : Bool} {ps : List (List UInt8)} {lb k : Nat} {w1 wr wb : World} {rs rs' : Nat → Rl} {ks : List (Nat × Nat)} {q : Option (Nat × Nat)} (h : LawInv ts R ps lb w1 wr k rs ks) (hg : R = lawGo ts (nextK ks q) (ps.drop (k + 1))) (hs : StepR 1100000000001 rs rs' q) (hL : LawAt wb lb ts.length rs') (hk : Kp lb wr wb) : LawInv ts R ps lb w1 wb (k + 1) rs' (nextK ks q) :=
  ⟨hg, h.key.step hs, fun i => by have := hs.1 i; have := h.na i; omega, fun i => by have := ms_step hs i; have := h.nm i; omega, fun i => by have := hs.2.1 i; have := h.wd i; omega, hL, h.kp.trans hk⟩

set_option maxRecDepth 10000 in
set_option maxHeartbeats 4000000 in
theorem rl_go (a : Option Addr) (cap : Nat) (s : ByteArray) (w : World) (k1 k2 : Nat) (ts : List (List UInt8 × List Bool)) (ps : List (List UInt8)) (he : s.toList.isEmpty = false) (h60 : k1 + k2 < 60) (hpl : ps.length = k2 + 1) (hok : TabsOk ts) (hts : ReadsTabs tcode w (.slice a ts.length cap) ts) (hg : Glob w) (hwl : ∀ p ∈ ps, p.length ≤ 1048576)
    (hc1 : ∀ w, Calls Tryz.prog 92 #[.string s, .string ⟨#[32]⟩] w fun e w' => e = .returned (.int .i64 k1) ∧ w' = w)
    (hc2 : ∀ w, Calls Tryz.prog 92 #[.string s, .string ⟨#[59]⟩] w fun e w' => e = .returned (.int .i64 k2) ∧ w' = w)
    (hs : ∀ w1, Below w.heap.size w w1 → Calls Tryz.prog 94 #[.string s, .string ⟨#[59]⟩] w1 fun e w' => e = .returned (.slice (some ⟨w1.heap.size, 0, none⟩) ps.length ps.length) ∧ w' = w1.alloc (.cells (ps.map fun l => Value.string (bs l)).toArray 9)) :
    Calls Tryz.prog 64 #[.slice a ts.length cap, .string s] w fun e w' => LawAns w' (lawGo ts [] ps) e ∧ Below w.heap.size w w' := by
  obtain ⟨i0, hi0, hz0, hz1, hz2⟩ := info_parts Tryz.infoRules
  have HB : Hid (Base w (.slice a ts.length cap) ts) := Hid.mk ⟨hg, hts, hok⟩
  have HW : Hid _ := hwl
  have htl := hok.few
  clear hg hwl hts hok
  obtain ⟨R, HR⟩ : ∃ R, Hid (lawGo ts [] ps = R) := exHid _
  rw [HR.out]
  go_enter Tryz.func64, Tryz.ntmps64
  go_wp2_with (first
    | (at_make; refine wpList_make_full _ rfl _ _ 122 rfl w.heap.size 258 i0 _ 3 Tryz.underlying122 hi0 hz0 hz1 _ _ _ _ ts.length rfl rfl rfl rfl (by rw [hz2]; omega) (by unfold maxLen; omega) (Nat.le_refl _) ?_; intro w3 hown3 hgrow3; have hb3 : Below w.heap.size w w3 := (Below.refl _ _).grown hgrow3 (Nat.le_refl _) (by intro k hk; cases hk); have HL3 : Hid (LawAt w3 w.heap.size ts.length noRl) := Hid.mk (LawAt.new hown3); clear hgrow3 hown3)
    | (go_at_call 92; with_reducible refine (hc1 _).mono ?_; rintro e w' ⟨rfl, hw⟩; obtain rfl := hw.symm)
    | (go_at_call 92; with_reducible refine (hc2 _).mono ?_; rintro e w' ⟨rfl, hw⟩; obtain rfl := hw.symm)
    | (go_at_call 94; refine (hs _ hb3).mono ?_; rintro e w' ⟨rfl, rfl⟩))
  obtain ⟨w1, HW1⟩ : ∃ w1, Hid (w3.alloc (.cells (ps.map fun l => Value.string (bs l)).toArray 9) = w1) := exHid _
  have hb31 : Below w3.heap.size w3 w1 := by rw [← HW1.out]; exact (Below.refl _ _).alloc (Nat.le_refl _) _
  have hb1 : Below w.heap.size w w1 := hb3.trans (hb31.mono hb3.size)
  have hz1' : w1.heap.size = w3.heap.size + 1 := by rw [← HW1.out]; simp
  have HCP : Hid (w1.heap[w3.heap.size]? = some (.cells (ps.map fun l => Value.string (bs l)).toArray 9 (0, 0))) := Hid.mk (by
    rw [← HW1.out]
    exact heap_alloc_new w3 (.cells (ps.map fun l => Value.string (bs l)).toArray 9))
  have HL0 : Hid (LawAt w1 w.heap.size ts.length noRl) := Hid.mk (HL3.out.below hb31)
  have hlt3 : w.heap.size < w3.heap.size := HL3.out.lt
  rw [HW1.out]
  have HZ : Hid _ := hz1'
  have HB1 : Hid _ := hb1
  clear hz1' hs hc1 hc2 hb1 hb31 HL3
  go_loopw [27] (fun i wr => ∃ (k : Nat) (rs : Nat → Rl) (ks : List (Nat × Nat)), k ≤ ps.length ∧ i = .int .i64 k ∧ LawInv ts R ps w.heap.size w1 wr k rs ks) (fun i _ => ps.length - (intOf i).toNat)
  case atStart => exact ⟨0, noRl, [], Nat.zero_le _, rfl, HR.out.symm, KeyOk.none _, fun _ => Nat.le_refl _, fun _ => Nat.le_refl _, fun _ => Nat.zero_le _, HL0.out, ⟨Below.refl _ _, fun _ _ _ h => h⟩⟩
  case round =>
    obtain ⟨k, rs, ks, hk, rfl, hinv⟩ := hrel
    have HI : Hid (LawInv ts R ps w.heap.size w1 wr k rs ks) := Hid.mk hinv
    clear hinv
    have hsz := HI.out.kp.bel.size
    have hzz := HZ.out
    by_cases hlt : k < ps.length
    · obtain ⟨p, HP⟩ : ∃ p, Hid (ps[k] = p) := exHid _
      have hpw : p.length ≤ 1048576 := by rw [← HP.out]; exact HW.out _ (List.getElem_mem hlt)
      have hcp : wr.cell? ⟨w3.heap.size, k, none⟩ = some (.string (bs p)) := by
        rw [Lib.cell_of_heap (HI.out.kp.str _ _ _ HCP.out)]
        simp [hlt, HP.out]
      have HD : Hid (R = lawGo ts ks (p :: ps.drop (k + 1))) := Hid.mk (by rw [HI.out.go, List.drop_eq_getElem_cons hlt, HP.out])
      have hBw : Below w.heap.size w wr := HB1.out.trans HI.out.kp.bel
      have hgr := Glob.kept HB.out.glob hBw
      have hsp := psplit_any (bs p) 32 wr (by simpa using (by omega : p.length ≤ 1048577)) hgr
      rw [bs_toList] at hsp
      have hwn := spl_length_le 32 p
      have hwp := spl_pos 32 p
      have hwm := spl_mem_length 32 p
      have hru := rule_new w wr (.slice a ts.length cap) ts (spl 32 p) w.heap.size rs ks HB.out (Nat.le_refl _) hBw HI.out.law HI.out.key (fun i => by have := HI.out.na i; omega) (fun i => by have := HI.out.nm i; omega) (fun i => by have := HI.out.wd i; omega) hwp (by omega) (fun l hl => by have := hwm l hl; omega)
      have HBW : Hid (Below w.heap.size w wr) := Hid.mk hBw
      clear hgr hwm hBw hwp
      cases hr : ruleK ts ks (spl 32 p) with
      | none =>
        have hRN : Hid (R = false) := Hid.mk (by rw [HD.out]; exact lg_no hr)
        rw [hr] at hru
        clear hr
        obtain ⟨ws, HWS⟩ : ∃ ws, Hid (spl 32 p = ws) := exHid _
        rw [HWS.out] at hsp hru hwn
        go_wp2_with (first
          | (go_at_call 94; refine hsp.mono ?_; rintro e wa ⟨rfl, rfl⟩)
          | (go_at_call 109; refine hru.mono ?_; rintro e wb ⟨⟨te, pe, rfl, hE⟩, hkb⟩; have HE : Hid (Err wb 4 (.iface te pe)) := Hid.mk hE; clear hE))
        go_ret2
        rw [hRN.out]
        exact ⟨⟨_, _, rfl, HE.out.wrap' _ _ _ rfl⟩, (HBW.out.trans hkb.bel).alloc (by have := hkb.bel.size; omega) _⟩
      | some q =>
        have HGOOD : Hid (R = lawGo ts (nextK ks q) (ps.drop (k + 1))) := Hid.mk (by rw [HD.out]; exact lg_yes hr)
        rw [hr] at hru
        clear hr
        obtain ⟨ws, HWS⟩ : ∃ ws, Hid (spl 32 p = ws) := exHid _
        rw [HWS.out] at hsp hru hwn
        go_wp2_with (first
          | (go_at_call 94; refine hsp.mono ?_; rintro e wa ⟨rfl, rfl⟩)
          | (go_at_call 109; refine hru.mono ?_; rintro e wb ⟨⟨rfl, hE⟩, hkb⟩; have HE : Hid (∃ rs', LawAt wb w.heap.size ts.length rs' ∧ StepR 1100000000001 rs rs' q) := Hid.mk hE; clear hE))
        go_roundw
        case rel =>
          obtain ⟨rs', hL', hs'⟩ := HE.out
          exact ⟨k + 1, rs', nextK ks q, by omega, by go_num, HI.out.step HGOOD.out hs' hL' hkb⟩
        case measure => simp [intOf]; omega
    · have hd : ps.drop k = [] := List.drop_of_length_le (by omega)
      have hR : R = true := by rw [HI.out.go, hd]; rfl
      have HRR : Hid _ := hR
      clear hR
      go_wp2
      go_ret2
      rw [HRR.out]
      exact ⟨⟨_, _, rfl, rfl⟩, HB1.out.trans HI.out.kp.bel⟩
/-- THE PROGRAM's ReadLaw. -/
theorem readLaw_any (vs : Value) (ts : List (List UInt8 × List Bool)) (s : ByteArray) (w : World) (hok : TabsOk ts) (hts : ReadsTabs tcode w vs ts) (hg : Glob w) (hs : s.size ≤ 1048576) :
    Calls Tryz.prog 64 #[vs, .string s] w fun e w' => LawAns w' (lawP ts s.data.toList) e ∧ Below w.heap.size w w' := by
  obtain ⟨a, cap, rfl, _⟩ := id hts
  have hl2 : s.data.toList.length ≤ 1048576 := by simpa using hs
  have hc1 := fun w => pcount_any s 32 w
  have hc2 := fun w => pcount_any s 59 w
  have hn1 := List.count_le_length (a := (32 : UInt8)) (l := s.data.toList)
  have hn2 := List.count_le_length (a := (59 : UInt8)) (l := s.data.toList)
  have hlen := spl_length 59 s.data.toList
  have hmem := spl_mem_length 59 s.data.toList
  have htl : s.toList = s.data.toList := ByteArray.toList_eq s
  unfold lawP
  by_cases h0 : s.data.toList = []
  · have e : s = ByteArray.empty := by
      cases s with | mk d => simp at h0; subst h0; rfl
    subst e
    exact rl_empty a _ cap w hok.few
  · have h0' : s.data.toList.isEmpty = false := by simpa using h0
    rw [h0', Bool.false_or]
    by_cases h60 : s.data.toList.count 32 + s.data.toList.count 59 < 60
    · rw [decide_eq_true h60, Bool.true_and]
      exact rl_go a cap s w _ _ ts _ (by rw [htl]; exact h0') h60 hlen hok hts hg (fun p hp => Nat.le_trans (hmem p hp) hl2) hc1 hc2 fun w1 hb => psplit_any s 59 w1 (by omega) (hg.kept hb)
    · rw [decide_eq_false h60, Bool.false_and]
      exact rl_many a _ cap s w _ _ hok.few (by rw [htl]; exact h0') (by omega) (by omega) (by omega) hc1 hc2
end Go.Proofs.YtnpjldffciociaaGreatDoor
namespace Go.Proofs.YtnpjldffciociaaGreatDoor
open Go.RowKit

theorem tableOf_okL {p : List UInt8} {t : List UInt8 × List Bool} (h : tableOf p = some t) : 1 ≤ t.2.length ∧ t.2.length ≤ 5 ∧ isNameL t.1 = true := by
  unfold tableOf at h
  split at h
  · cases h
  · split at h
    · rename_i hc
      simp at hc
      cases h
      simp [hc]
    · cases h
theorem schemaGo_okL : ∀ (ps : List (List UInt8)) (acc ts : List (List UInt8 × List Bool)), (∀ t ∈ acc, 1 ≤ t.2.length ∧ t.2.length ≤ 5 ∧ isNameL t.1 = true) → schemaGo acc ps = some ts → ∀ t ∈ ts, 1 ≤ t.2.length ∧ t.2.length ≤ 5 ∧ isNameL t.1 = true := by
  intro ps
  induction ps with
  | nil => intro acc ts ha h; simp [schemaGo] at h; subst h; exact ha
  | cons p r ih =>
    intro acc ts ha h
    rw [schemaGo] at h
    split at h
    · cases h
    · rename_i t ht
      split at h
      · cases h
      · refine ih _ ts ?_ h
        intro x hx
        rcases List.mem_append.1 hx with hx | hx
        · exact ha x hx
        · simp at hx; subst hx; exact tableOf_okL ht
theorem schemaP_okL {l : List UInt8} {ts : List (List UInt8 × List Bool)} (h : schemaP l = some ts) : ts.length ≤ 6 ∧ ∀ t ∈ ts, 1 ≤ t.2.length ∧ t.2.length ≤ 5 ∧ isNameL t.1 = true := by
  unfold schemaP at h
  split at h
  · cases h
  · rename_i us hu
    split at h
    · cases h; exact ⟨by assumption, schemaGo_okL _ _ _ (by simp) hu⟩
    · cases h
theorem schemaP_tabs {l : List UInt8} {ts : List (List UInt8 × List Bool)} (h : schemaP l = some ts) : TabsOk ts := by
  obtain ⟨h1, h2⟩ := schemaP_okL h
  refine ⟨by omega, fun t => ?_, fun t ht e => ?_⟩
  · unfold typesOf
    by_cases hl : t < ts.length
    · have := (h2 ts[t] (List.getElem_mem hl)).2.1
      simp [List.getD, hl]; omega
    · simp [List.getD, List.getElem?_eq_none (Nat.le_of_not_lt hl)]
  · have := (h2 t ht).2.2
    rw [e] at this
    exact absurd this (by decide)

set_option maxRecDepth 10000 in
set_option maxHeartbeats 1000000 in
theorem pcl_schema (a b : ByteArray) (w : World) (n : Int)
    (h1 : Calls Tryz.prog 57 #[.string a] w fun e w' => ∃ v te pe, e = .returned (.tuple #[v, .iface te pe]) ∧ Below w.heap.size w w' ∧ Calls Tryz.prog 58 #[.iface te pe] w' fun ev w'' => ev = .returned (.int .i64 n) ∧ Below w'.heap.size w' w'') :
    Calls Tryz.prog 36 #[.string a, .string b] w fun e w' => e = .returned (.int .i64 n) ∧ Below w.heap.size w w' := by
  go_enter Tryz.func36, Tryz.ntmps36
  go_wp2_with (first
    | (go_at_call 57; refine h1.mono ?_; rintro e w1 ⟨v, te, pe, rfl, hb1, hc⟩)
    | (go_at_call 58; refine hc.mono ?_; rintro e w2 ⟨rfl, hb2⟩))
  go_ret
  exact ⟨rfl, hb1.trans (hb2.mono hb1.size)⟩
set_option maxRecDepth 10000 in
set_option maxHeartbeats 1000000 in
theorem pcl_law (a b : ByteArray) (w : World) (n : Int) (P : World → Value → Prop)
    (h1 : Calls Tryz.prog 57 #[.string a] w fun e w' => ∃ v, e = .returned (.tuple #[v, .nilIface]) ∧ P w' v ∧ Below w.heap.size w w')
    (h2 : ∀ w1 v, P w1 v → Below w.heap.size w w1 → Calls Tryz.prog 64 #[v, .string b] w1 fun e w' => ∃ v ev, e = .returned (.tuple #[v, ev]) ∧ Below w1.heap.size w1 w' ∧ Calls Tryz.prog 58 #[ev] w' fun er w'' => er = .returned (.int .i64 n) ∧ Below w'.heap.size w' w'') :
    Calls Tryz.prog 36 #[.string a, .string b] w fun e w' => e = .returned (.int .i64 n) ∧ Below w.heap.size w w' := by
  go_enter Tryz.func36, Tryz.ntmps36
  go_wp2_with (first
    | (go_at_call 57; refine h1.mono ?_; rintro e w1 ⟨v, rfl, hP, hb1⟩)
    | (go_at_call 64; refine (h2 _ _ hP hb1).mono ?_; rintro e w2 ⟨v2, ev, rfl, hb2, hc⟩)
    | (go_at_call 58; refine hc.mono ?_; rintro e w3 ⟨rfl, hb3⟩))
  go_ret
  exact ⟨rfl, (hb1.trans (hb2.mono hb1.size)).trans (hb3.mono (Nat.le_trans hb1.size hb2.size))⟩

/-- What CheckLaw answers. -/
def lawNum (a b : List UInt8) : Int :=
  match schemaP a with
  | none => 1
  | some ts => match lawP ts b with
    | true => 0
    | false => 4
/-- THE PROGRAM's CheckLaw. -/
theorem checkLaw_any (a b : ByteArray) (w : World) (ha : a.size ≤ 1048576) (hb : b.size ≤ 1048576) (hg : Glob w) :
    Calls Tryz.prog 36 #[.string a, .string b] w fun e w' => e = .returned (.int .i64 (lawNum a.data.toList b.data.toList)) ∧ Below w.heap.size w w' := by
  have h1 := readSchema_any a w ha hg
  unfold lawNum
  cases hs : schemaP a.data.toList with
  | none =>
    rw [hs] at h1
    refine pcl_schema a b w 1 (h1.mono ?_)
    rintro e w' ⟨⟨v, ev, rfl, hE⟩, hb'⟩
    have hE' : Err w' 1 ev := hE
    obtain ⟨te, pe, rfl⟩ := hE'.form
    exact ⟨v, te, pe, rfl, hb', errnoOf_err 1 _ w' hE' (hg.kept hb')⟩
  | some ts =>
    rw [hs] at h1
    refine pcl_law a b w _ (fun w1 v => ReadsTabs tcode w1 v ts) (h1.mono ?_) ?_
    · rintro e w' ⟨⟨v, ev, rfl, hE, hR⟩, hb'⟩
      have : ev = .nilIface := hE
      subst this
      exact ⟨v, rfl, hR, hb'⟩
    · intro w1 v hv hb1
      have hg1 := hg.kept hb1
      refine (readLaw_any v ts b w1 (schemaP_tabs hs) hv hg1 hb).mono ?_
      rintro e w' ⟨⟨v2, ev, rfl, hE⟩, hb2⟩
      refine ⟨v2, ev, rfl, hb2, ?_⟩
      cases hl : lawP ts b.data.toList with
      | true =>
        rw [hl] at hE
        have : ev = .nilIface := hE
        subst this
        simp only [hl]
        exact errnoOf_nil w'
      | false =>
        rw [hl] at hE
        simp only [hl]
        exact errnoOf_err 4 _ w' hE (hg1.kept hb2)
end Go.Proofs.YtnpjldffciociaaGreatDoor
