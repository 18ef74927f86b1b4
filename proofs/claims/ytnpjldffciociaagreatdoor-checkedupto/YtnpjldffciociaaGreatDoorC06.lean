import Derived.Test.YtnpjldffciociaaGreatDoorC04
import Derived.Test.YtnpjldffciociaaGreatDoorC03
import Derived.Test.YtnpjldffciociaaGreatDoorC05
namespace Go.Proofs.YtnpjldffciociaaGreatDoor
open Go.RowKit
attribute [local go_sem ↓] Go.wp_at_zero Go.wp_at_succ

theorem keepne {w : World} {base : Nat} {e : TypeId} {size : Nat} {v : Value} {n : Nat} {xs : List Value} (h : w.ownsRow base e size v n xs) {k : Nat} (hk : k < base) : some k ≠ v.ownBlock := by
  intro e
  have := own_le h e.symm
  omega

set_option maxRecDepth 10000 in
set_option maxHeartbeats 4000000 in
theorem ty_sum_yes (w : World) (vs : Value) (b off len cap i : Nat) (ba offa na capa : Nat) (vb : Value) (hi : i ≤ 1000) (_hlen : len ≤ 60) (_hna : na ≤ 9) (hi2 : i + 2 < len) (_hbw : b < w.heap.size) (hci : w.cell? ⟨b, off + i, none⟩ = some (.string (bs wSum))) (x1 x2 : List UInt8) (hc1 : w.cell? ⟨b, off + (i + 1), none⟩ = some (.string (bs x1))) (hc2 : w.cell? ⟨b, off + (i + 2), none⟩ = some (.string (bs x2))) (cs : List Nat) (ys : List Bool) (p : Nat) (ta : Bool) (hcl : cs.length ≤ 1048577) (hpn : p < na) (hba : ba < w.heap.size) (hta : w.cell? ⟨ba, offa + p, none⟩ = some (.bool ta)) (hp : Calls Tryz.prog 163 #[.string (bs x1), .int .i64 na] w fun e w' => e = .returned (.int .i64 (p : Int)) ∧ w' = w) (hcs : Calls Tryz.prog 206 #[.string (bs x2), .int .i64 na] w fun e w' => ∃ u, e = .returned (.tuple #[u, .bool true]) ∧ Reads w' u (cs.map i64v) ∧ Below w.heap.size w w') (hso : ∀ w1 u, Below w.heap.size w w1 → Reads w1 u (cs.map i64v) → Calls Tryz.prog 207 #[.slice (some ⟨ba, offa, none⟩) na capa, u] w1 fun e w' => ∃ v', e = .returned v' ∧ w'.ownsRow w1.heap.size 4 1 v' cs.length (ys.map Value.bool) ∧ Below w1.heap.size w1 w') :
    Calls Tryz.prog 155 #[vs, .slice (some ⟨b, off, none⟩) len cap, .int .i64 i, .slice (some ⟨ba, offa, none⟩) na capa, vb] w fun e w' => (∃ v, e = .returned (.tuple #[v, .bool (!ta)]) ∧ Reads w' v ((ys ++ [false]).map Value.bool) ∧ NilOk v) ∧ Below w.heap.size w w' := by
  obtain ⟨i0, hi0, hz0, hz1, hz2⟩ := info_parts Tryz.infoBool
  have hp0 : (0 : Int) ≤ (p : Int) := by omega
  have hpi : (p : Int) < (na : Int) := by omega
  have hbs := bs_toList2
  go_enter Tryz.func155, Tryz.ntmps155
  go_wp2_with (first | (go_at_call 163; with_reducible refine hp.mono ?_; rintro e w' ⟨rfl, hw⟩; obtain rfl := hw.symm) | (go_at_call 206; refine hcs.mono ?_; rintro e w1 ⟨u, rfl, hru, hb1⟩; have hbe1 : ba < w1.heap.size := (Nat.lt_of_lt_of_le hba hb1.size); have hta1 : w1.cell? ⟨ba, offa + p, none⟩ = some (.bool ta) := ((hb1.cell (p := ⟨ba, offa + p, none⟩) hba).trans hta)))
  go_region_held3 (fun w' => w'.cell? ⟨ba, offa + p, none⟩ = some (.bool ta))
    (first
      | go_keep
      | (rw [hb2.cell (p := ⟨ba, offa + p, none⟩) (by simp; omega)]; go_keep)
      | (rw [hgrow.cell_far _ (by simp; have := hb2.size; simp at this; omega) (keepne hown2 (by simp; omega))]; go_keep)
      | (rw [hgrow.cell_far _ (by simp; have := hb2.size; simp at this; omega) (keepne hown2 (by simp; omega)), hb2.cell (p := ⟨ba, offa + p, none⟩) (by simp; omega)]; go_keep))
    (first
        | (go_at_call 207; refine (hso _ _ (by first | exact hb1.drew | exact (hb1.alloc hb1.size _).drew) (by first | exact hru.below ((Below.refl _ _).drew) | exact hru.below (((Below.refl _ _).alloc (Nat.le_refl _) _).drew))).mono ?_; rintro e w2 ⟨v2, rfl, hown2, hb2⟩)
        | (refine step_append_lies _ (by rfl) _ _ _ (by rfl) _ 4 i0 _ 1 1 Tryz.underlying117 hi0 hz0 hz1 hz2 rfl (by omega) v2 cs.length _ (by rfl) (hown2.alloc _) ⟨w2.heap.size, 0, none⟩ 1 1 [.bool false] (by rfl) (by rfl) (news_one (by simp)) (by simp [Value.oneCell']) (by omega) (by unfold maxLen; omega) (by omega) (by have := hb2.size; simp at this ⊢; omega) (w2.heap.size + 1) (by simp) ?_; intro gg cap3 w3 hown3 hgrow hat hlt)
        | (refine step_append_lies _ (by rfl) _ _ _ (by rfl) _ 4 i0 _ 1 1 Tryz.underlying117 hi0 hz0 hz1 hz2 rfl (by omega) v2 cs.length _ (by rfl) hown2 ⟨w1.heap.size, 0, none⟩ 1 1 [.bool false] (by rfl) (by rfl) (news_one (new_first hb2)) (by simp [Value.oneCell']) (by omega) (by unfold maxLen; omega) (by omega) hb2.size w2.heap.size rfl ?_; intro gg cap3 w3 hown3 hgrow hat hlt))
  all_goals go_wp2
  all_goals
    go_ret2
    refine ⟨⟨_, rfl, ?_, ?_⟩, ?_⟩
    · rw [List.map_append]; exact Reads.of_owns hown3
    · exact NilOk.of_owns hown3
    · first
        | exact belA hb1 hb2 hown2 hgrow
        | exact belB hb1 hb2 hown2 hgrow
end Go.Proofs.YtnpjldffciociaaGreatDoor
namespace Go.Proofs.YtnpjldffciociaaGreatDoor
open Go.RowKit

/-- The types of a view that begins with the word x, the types of the views in it being a and b. -/
def typedP (ts : List (List UInt8 × List Bool)) (x : List UInt8) (r : List (List UInt8)) (a b : List Bool) : Option (List Bool) :=
  match vword x with
  | (false, false, false) => match findT ts (wordAt r 0) with
    | none => none
    | some t => some (ts.getD t ([], [])).2
  | (false, false, true) => if condP ts a false r then some a else none
  | (false, true, false) => match colsOf (wordAt r 0) a.length with
    | none => none
    | some cs => some (pickB a cs)
  | (false, true, true) => match colsOf (wordAt r 0) a.length with
    | none => none
    | some cs => some (pickB a cs ++ [false])
  | (true, false, false) => match colsOf (wordAt r 1) a.length with
    | none => none
    | some cs => match colOf (wordAt r 0) a.length with
      | none => none
      | some c => if a.getD c false then none else some (pickB a cs ++ [false])
  | (true, false, true) => match colOf (wordAt r 0) a.length, colOf (wordAt r 1) b.length with
    | some c, some d => if a.getD c false == b.getD d false then some (a ++ b) else none
    | _, _ => none
  | (true, true, false) => if a == b then some a else none
  | (true, true, true) => none

/-- What 'typed' and 'types' answer. -/
def TyAns (w : World) (o : Option (List Bool)) (v : Value) : Prop := ∀ xs, o = some xs → Reads w v (xs.map Value.bool) ∧ NilOk v

theorem vword_all : vword wAll = .all := by simp [vword]
theorem vword_keep : vword wKeep = .keep := by simp [vword]
theorem vword_pick : vword wPick = .pick := by simp [vword]
theorem vword_count : vword wCount = .count := by simp [vword]
theorem vword_sum : vword wSum = .sum := by simp [vword]
theorem vword_join : vword wJoin = .join := by simp [vword]
theorem vword_both : vword wBoth = .both := by simp [vword]

theorem colsOf_len {l : List UInt8} {n : Nat} {cs : List Nat} (h : colsOf l n = some cs) : cs.length ≤ l.length + 1 ∧ ∀ c ∈ cs, c < n := by
  unfold colsOf at h
  split at h
  · simp at h; subst h; simp
  · exact ⟨by rw [mapM_len h]; exact spl_length_le _ _, mapM_lt h⟩

set_option maxRecDepth 10000 in
set_option maxHeartbeats 1000000 in
theorem typed_any (ts : List (List UInt8 × List Bool)) (ws : List (List UInt8)) (hl : ws.length ≤ 60) (hlt : ts.length ≤ 1048577)
    (hlc : ∀ t, (ts.getD t ([], [])).2.length ≤ 1048577) (hlp : ∀ t, t < ts.length → 1 ≤ (ts.getD t ([], [])).2.length) (hwl : ∀ j, (wordAt ws j).length ≤ 1048576)
    (vs vw va vb : Value) (xs ys : List Bool) (i : Nat) (w : World) (x : List UInt8) (r : List (List UInt8)) (h1 : ws.drop i = x :: r) (h2 : wordAt ws i = x) (h3 : ws.drop (i + 1) = r) (h4 : i < ws.length)
    (hvs : ReadsTabs Value.bool w vs ts) (hvw : Reads w vw (ws.map fun l => .string (bs l))) (ra : Reads w va (xs.map .bool)) (rb : Reads w vb (ys.map .bool)) (oa : NilOk va) (ob : NilOk vb) (hna : xs.length ≤ 9) (hnb : ys.length ≤ 9)
    (h k : Nat) (hr : headR x r = some (h, k)) (hin : i + (h + 1) ≤ ws.length) :
    Calls Tryz.prog 155 #[vs, vw, .int .i64 i, va, vb] w fun e w' => ∃ v, e = .returned (.tuple #[v, .bool (typedP ts x r xs ys).isSome]) ∧ TyAns w' (typedP ts x r xs ys) v ∧ Below w.heap.size w w' := by
  have hrw : ∀ j, wordAt r j = wordAt ws (i + 1 + j) := fun j => by rw [← h3, wordAt_drop2]
  have hbw : ∃ b off cap, vw = .slice (some ⟨b, off, none⟩) ws.length cap ∧ b < w.heap.size ∧ ∀ j, j < ws.length → w.cell? ⟨b, off + j, none⟩ = some (.string (bs (wordAt ws j))) := by
    obtain ⟨b, off, cap, rfl, hcell⟩ := hvw.row (i := i) h4
    obtain ⟨a, cap', e1, h5⟩ := hvw
    obtain ⟨b', off', e2, hb', _⟩ := h5 i (.string (bs ws[i])) (by simp [h4])
    simp at e1
    rw [← e1.1] at e2
    simp at e2
    exact ⟨b, off, cap, rfl, by rw [e2.1]; exact hb', hcell⟩
  have hi : i ≤ 1000 := by omega
  have hvw0 := hvw
  obtain ⟨b, off, cap, rfl, hbw, hcell⟩ := hbw
  have hci := hcell i h4
  rw [h2] at hci
  have hso : ∀ (cs : List Nat), cs.length ≤ 1048577 → (∀ c ∈ cs, c < xs.length) → ∀ w1 u, Below w.heap.size w w1 → Reads w1 u (cs.map i64v) → Calls Tryz.prog 207 #[va, u] w1 fun e w' => ∃ v', e = .returned v' ∧ w'.ownsRow w1.heap.size 4 1 v' cs.length ((pickB xs cs).map Value.bool) ∧ Below w1.heap.size w1 w' :=
    fun cs hc hci w1 u hb1 hru => some_any va u xs cs w1 (ra.below hb1) hru (by omega) hc hci
  obtain ⟨at_, na, capa, rfl, hnt⟩ : ∃ a n cap, va = .slice a n cap ∧ n = xs.length := by
    obtain ⟨a, cap, rfl, _⟩ := ra
    exact ⟨a, _, cap, rfl, by simp⟩
  subst hnt
  unfold headR at hr
  by_cases e1 : x = wAll
  · subst e1
    simp only [vword_all, Option.some.injEq, Prod.mk.injEq] at hr
    simp only [typedP, vword_all, hrw, Nat.add_zero]
    have hc1 := hcell (i + 1) (by omega)
    have hf := find_any vs ts (bs (wordAt ws (i + 1))) w hvs (by omega)
    rw [bs_toList] at hf
    cases hft : findT ts (wordAt ws (i + 1)) with
    | none =>
      rw [hft] at hf
      exact (ty_all_no w vs b off _ cap i at_ _ capa vb hi hl hna (by omega) hci _ hc1 hf).mono fun e w' ⟨g1, g2⟩ => ⟨_, g1, fun xs h => (by cases h), below_of_eq g2⟩
    | some t =>
      rw [hft] at hf
      have htl := findT_lt hft
      obtain ⟨a0, cap0, rfl, hvt⟩ := id hvs
      obtain ⟨bt, offt, tv, rfl, hbt, hct1, hct, hrt⟩ := hvt t ts[t] (List.getElem?_eq_getElem htl)
      have eg : ts.getD t ([], []) = ts[t] := by simp [List.getD, htl]
      have hp1 := hlp t htl
      rw [eg] at hp1
      simp only [eg]
      refine (ty_all w b off _ cap i at_ _ capa vb hi hl hna (by omega) hci _ hc1 bt offt _ cap0 t tv htl hlt hct ?_ hf).mono ?_
      · obtain ⟨a, c, rfl, _⟩ := hrt; exact ⟨_, _, _, rfl⟩
      · rintro e w' ⟨g1, g2⟩
        subst g2
        exact ⟨_, g1, fun xs h => (by cases h; exact ⟨hrt, NilOk.of_pos hrt (by simp; omega)⟩), Below.refl _ _⟩
  by_cases e2 : x = wKeep
  · subst e2
    simp only [vword_keep] at hr
    simp only [typedP, vword_keep]
    cases hn : condLen r with
    | none => simp [hn] at hr
    | some n =>
      simp only [hn, Option.some.injEq, Prod.mk.injEq] at hr
      have hc1 := hcell (i + 1) (by have := (condLen_le _ r (Nat.le_refl _) n hn).2; omega)
      have hk := condLen_any ws (by omega) (ws.length + 1) (.slice (some ⟨b, off, none⟩) ws.length cap) (i + 1) w (by omega) (by omega) hvw0
      rw [h3, hn] at hk
      have hic := isCond_any ts ws xs false (by omega) (by omega) hlt hlc (fun j => by have := hwl j; omega) (by omega) (ws.length + 1) vs (.slice (some ⟨b, off, none⟩) ws.length cap) (.slice at_ xs.length capa) (i + 1) n w (by omega) (by omega) (by omega) hvs hvw0 ra
      have ec : condAt ts xs false ws (i + 1) n = condP ts xs false r := by
        have hle : i + 1 + n ≤ ws.length := by omega
        simp [condAt, h3, hn, hle]
      rw [ec] at hic
      refine (ty_keep w vs b off _ cap i at_ _ capa vb hi hl hna (by have := (condLen_le _ r (Nat.le_refl _) n hn).2; omega) hci _ hc1 n _ (by simpa [idxOf] using hk) (by simpa using hic)).mono ?_
      rintro e w' ⟨g1, g2⟩
      refine ⟨_, by rw [g1]; cases condP ts xs false r <;> rfl, ?_, g2⟩
      intro zs hz
      split at hz
      · cases hz; exact ⟨ra.below g2, oa⟩
      · cases hz
  by_cases e3 : x = wPick
  · subst e3
    simp only [vword_pick, Option.some.injEq, Prod.mk.injEq] at hr
    simp only [typedP, vword_pick, hrw, Nat.add_zero]
    have hc1 := hcell (i + 1) (by omega)
    have hcs := columns_any2 (bs (wordAt ws (i + 1))) xs.length w (by have := hwl (i + 1); simp; omega)
    rw [bs_toList] at hcs
    cases hco : colsOf (wordAt ws (i + 1)) xs.length with
    | none =>
      rw [hco] at hcs
      exact (ty_pick w vs b off _ cap i at_ _ capa vb hi hl hna (by omega) hci _ hc1 [] _ _ hcs (hso [] (by simp) (by simp))).mono fun e w' ⟨⟨v, g1, _, _⟩, g2⟩ => ⟨v, g1, fun zs h => (by cases h), g2⟩
    | some cs =>
      rw [hco] at hcs
      have hlen := colsOf_len hco
      exact (ty_pick w vs b off _ cap i at_ _ capa vb hi hl hna (by omega) hci _ hc1 cs _ _ hcs (hso cs (by have := hwl (i + 1); omega) hlen.2)).mono fun e w' ⟨⟨v, g1, g3, g4⟩, g2⟩ => ⟨v, g1, fun zs h => (by cases h; exact ⟨g3, g4⟩), g2⟩
  by_cases e4 : x = wCount
  · subst e4
    simp only [vword_count, Option.some.injEq, Prod.mk.injEq] at hr
    simp only [typedP, vword_count, hrw, Nat.add_zero]
    have hc1 := hcell (i + 1) (by omega)
    have hcs := columns_any2 (bs (wordAt ws (i + 1))) xs.length w (by have := hwl (i + 1); simp; omega)
    rw [bs_toList] at hcs
    cases hco : colsOf (wordAt ws (i + 1)) xs.length with
    | none =>
      rw [hco] at hcs
      exact (ty_count w vs b off _ cap i at_ _ capa vb hi hl hna (by omega) hci _ hc1 [] _ _ (by simp) hcs (hso [] (by simp) (by simp))).mono fun e w' ⟨⟨v, g1, _, _⟩, g2⟩ => ⟨v, g1, fun zs h => (by cases h), g2⟩
    | some cs =>
      rw [hco] at hcs
      have hlen := colsOf_len hco
      have hcl : cs.length ≤ 1048577 := by have := hwl (i + 1); omega
      exact (ty_count w vs b off _ cap i at_ _ capa vb hi hl hna (by omega) hci _ hc1 cs _ _ hcl hcs (hso cs hcl hlen.2)).mono fun e w' ⟨⟨v, g1, g3, g4⟩, g2⟩ => ⟨v, g1, fun zs h => (by cases h; exact ⟨g3, g4⟩), g2⟩
  by_cases e5 : x = wSum
  · subst e5
    simp only [vword_sum, Option.some.injEq, Prod.mk.injEq] at hr
    simp only [typedP, vword_sum, hrw, Nat.add_zero, Nat.add_assoc, Nat.reduceAdd]
    have hc1 := hcell (i + 1) (by omega)
    have hc2 := hcell (i + 2) (by omega)
    have hcs := columns_any2 (bs (wordAt ws (i + 2))) xs.length w (by have := hwl (i + 2); simp; omega)
    have hp := column_any (bs (wordAt ws (i + 1))) xs.length w (by have := hwl (i + 1); simp [maxLen]; omega)
    rw [bs_toList] at hcs hp
    cases hco : colsOf (wordAt ws (i + 2)) xs.length with
    | none =>
      rw [hco] at hcs
      exact (ty_sum_no w vs b off _ cap i at_ _ capa vb hi hl hna (by omega) hbw hci _ _ hc1 hc2 [] _ false _ (by simp) (.inl rfl) hp hcs (hso [] (by simp) (by simp))).mono fun e w' ⟨⟨v, g1⟩, g2⟩ => ⟨v, g1, fun zs h => (by cases h), g2⟩
    | some cs =>
      rw [hco] at hcs
      have hlen := colsOf_len hco
      have hcl : cs.length ≤ 1048577 := by have := hwl (i + 2); omega
      cases hcp : colOf (wordAt ws (i + 1)) xs.length with
      | none =>
        rw [hcp] at hp
        exact (ty_sum_no w vs b off _ cap i at_ _ capa vb hi hl hna (by omega) hbw hci _ _ hc1 hc2 cs _ true _ hcl (.inr ⟨rfl, by simp [idxOf]⟩) hp hcs (hso cs hcl hlen.2)).mono fun e w' ⟨⟨v, g1⟩, g2⟩ => ⟨v, g1, fun zs h => (by cases h), g2⟩
      | some c =>
        rw [hcp] at hp
        have hpl := (colOf_lt hcp).1
        obtain ⟨ba, offa, capa', ev, hba, hcb⟩ := ra.bools hpl
        simp only [Value.slice.injEq] at ev
        obtain ⟨rfl, -, rfl⟩ := ev
        refine (ty_sum_yes w vs b off _ cap i ba offa _ capa vb hi hl hna (by omega) hbw hci _ _ hc1 hc2 cs _ c _ hcl hpl hba (hcb c hpl) hp hcs (hso cs hcl hlen.2)).mono ?_
        rintro e w' ⟨⟨v, g1, g3, g4⟩, g2⟩
        refine ⟨v, by rw [g1]; simp only []; cases xs.getD c false <;> rfl, ?_, g2⟩
        intro zs hz
        simp only [] at hz
        split at hz
        · cases hz
        · cases hz; exact ⟨g3, g4⟩
  by_cases e6 : x = wJoin
  · subst e6
    simp only [vword_join, Option.some.injEq, Prod.mk.injEq] at hr
    simp only [typedP, vword_join, hrw, Nat.add_zero, Nat.add_assoc, Nat.reduceAdd]
    have hc1 := hcell (i + 1) (by omega)
    have hc2 := hcell (i + 2) (by omega)
    have hp := column_any (bs (wordAt ws (i + 1))) xs.length w (by have := hwl (i + 1); simp [maxLen]; omega)
    have hq := column_any (bs (wordAt ws (i + 2))) ys.length w (by have := hwl (i + 2); simp [maxLen]; omega)
    rw [bs_toList] at hp hq
    cases hcp : colOf (wordAt ws (i + 1)) xs.length with
    | none =>
      rw [hcp] at hp
      exact (ty_join_no w vs b off _ cap i _ vb xs ys hi hl hna hnb ra rb oa ob (by omega) hbw hci _ _ hc1 hc2 _ _ (.inl (by simp [idxOf])) hp hq).mono fun e w' ⟨⟨v, g1⟩, g2⟩ => ⟨v, g1, fun zs h => (by cases h), g2⟩
    | some c =>
      rw [hcp] at hp
      cases hcq : colOf (wordAt ws (i + 2)) ys.length with
      | none =>
        rw [hcq] at hq
        exact (ty_join_no w vs b off _ cap i _ vb xs ys hi hl hna hnb ra rb oa ob (by omega) hbw hci _ _ hc1 hc2 _ _ (.inr (by simp [idxOf])) hp hq).mono fun e w' ⟨⟨v, g1⟩, g2⟩ => ⟨v, g1, fun zs h => (by cases h), g2⟩
      | some d =>
        rw [hcq] at hq
        have hpl := (colOf_lt hcp).1
        have hql := (colOf_lt hcq).1
        obtain ⟨ba, offa, capa', ev, hba, hcb⟩ := ra.bools hpl
        obtain ⟨bb, offb, capb', evb, hbb, hcbb⟩ := rb.bools hql
        refine (ty_join_yes w vs b off _ cap i _ vb xs ys hi hl hna hnb ra rb oa ob (by omega) hbw hci _ _ hc1 hc2 c d hpl hql _ _ ba offa bb offb capa' capb' ev evb hba hbb (hcb c hpl) (hcbb d hql) hp hq).mono ?_
        rintro e w' ⟨⟨v, g1, g3, g4⟩, g2⟩
        refine ⟨v, by rw [g1]; simp only []; cases (xs.getD c false == ys.getD d false) <;> rfl, ?_, g2⟩
        intro zs hz
        simp only [] at hz
        split at hz
        · cases hz; exact ⟨g3, g4⟩
        · cases hz
  by_cases e7 : x = wBoth
  · subst e7
    simp only [vword_both, Option.some.injEq, Prod.mk.injEq] at hr
    simp only [typedP, vword_both]
    have hal := alike_any _ vb xs ys w ra rb (by omega) (by omega)
    refine (ty_both w vs b off _ cap i at_ _ capa vb hi hl hna h4 hci _ hal).mono ?_
    rintro e w' ⟨g1, n, g2⟩
    subst g2
    have hbb : Below w.heap.size w (w.drewN n) := below_drewN (Below.refl _ _) n
    refine ⟨_, by rw [g1]; cases (xs == ys) <;> rfl, ?_, hbb⟩
    intro zs hz
    split at hz
    · cases hz; exact ⟨ra.below hbb, oa⟩
    · cases hz
  have ev : vword x = .none := by simp [vword, e1, e2, e3, e4, e5, e6, e7]
  rw [ev] at hr
  cases hr
end Go.Proofs.YtnpjldffciociaaGreatDoor
