import Derived.Test.YtnpjldffciociaaGreatDoorB20
import Derived.Test.YtnpjldffciociaaGreatDoorC01
import Derived.Test.YtnpjldffciociaaGreatDoorC08
namespace Go.Proofs.YtnpjldffciociaaGreatDoor

/-- COLS, as the program reads them. -/
def colsRaw (x : List UInt8) : Option (List Nat) := if x = [45] then some [] else if 18 ≤ x.length then none else (spl 44 x).mapM fun p => colOf p 9
def typesAt (a : List Bool) (cs : List Nat) : Option (List Bool) := cs.mapM fun c => a[c]?
def wideV (o : Option (List Bool × Nat)) : Option (List Bool × Nat) :=
  match o with
  | none => none
  | some (xs, j) => if xs.length ≤ 9 then some (xs, j) else none

/-- COLS and a view behind them. -/
def overR (ws : List (List UInt8)) (V : Nat → Option (List Bool × Nat)) (i : Nat) : Option (List Bool × List Bool × Nat) :=
  match colsRaw (wordAt ws i) with
  | none => none
  | some cs => match V (i + 1) with
    | none => none
    | some (a, j) => match typesAt a cs with
      | none => none
      | some t => some (a, t, j)
/-- Two views. -/
def twoV (V : Nat → Option (List Bool × Nat)) (i : Nat) : Option (List Bool × List Bool × Nat) :=
  match V i with
  | none => none
  | some (a, j) => match V j with
    | none => none
    | some (b, j2) => some (a, b, j2)
def alikeO (a : List Bool) (c : Nat) (b : List Bool) (d : Nat) : Bool := a[c]?.isSome && (a[c]? == b[d]?)

/-- A view by its operator, the views within being read by V. -/
def viewB (ts : List (List UInt8 × List Bool)) (ws : List (List UInt8)) (k : Nat) (V : Nat → Option (List Bool × Nat)) (i : Nat) : Option (List Bool × Nat) :=
  match vword (wordAt ws i) with
  | (false, false, false) => match findT ts (wordAt ws (i + 1)) with
    | none => none
    | some t => some ((ts.getD t ([], [])).2, i + 2)
  | (false, false, true) => match parseC ts false ws k (i + 1) with
    | none => none
    | some (c, j) => match V j with
      | none => none
      | some (a, j2) => if fitC ts a c then some (a, j2) else none
  | (false, true, false) => match overR ws V (i + 1) with
    | none => none
    | some (_, t, j) => some (t, j)
  | (false, true, true) => match overR ws V (i + 1) with
    | none => none
    | some (_, t, j) => some (t ++ [false], j)
  | (true, false, false) => match colRaw (wordAt ws (i + 1)) with
    | none => none
    | some c => match overR ws V (i + 2) with
      | none => none
      | some (a, t, j) => if a[c]? = some false then some (t ++ [false], j) else none
  | (true, false, true) => match colRaw (wordAt ws (i + 1)) with
    | none => none
    | some c => match colRaw (wordAt ws (i + 2)) with
      | none => none
      | some d => match twoV V (i + 3) with
        | none => none
        | some (a, b, j) => if alikeO a c b d then some (a ++ b, j) else none
  | (true, true, false) => match twoV V (i + 1) with
    | none => none
    | some (a, b, j) => if a = b then some (a, j) else none
  | (true, true, true) => none

def parseV (ts : List (List UInt8 × List Bool)) (ws : List (List UInt8)) : Nat → Nat → Option (List Bool × Nat)
  | 0, _ => none
  | k + 1, i => wideV (viewB ts ws k (fun j => parseV ts ws k j) i)
end Go.Proofs.YtnpjldffciociaaGreatDoor
namespace Go.Proofs.YtnpjldffciociaaGreatDoor

theorem spl_sum (c : UInt8) (l : List UInt8) : ((spl c l).map List.length).sum + l.count c = l.length := by
  induction l with
  | nil => simp [spl]
  | cons x xs ih =>
    unfold spl
    by_cases h : x = c
    · simp [h]; omega
    · rw [if_neg h, List.count_cons_of_ne h]
      split
      · rename_i e; exact absurd e (spl_ne_nil c xs)
      · rename_i e; rw [e] at ih; simp at ih ⊢; omega

theorem mapM_ones {ps : List (List UInt8)} {n : Nat} {cs : List Nat} (h : (ps.mapM fun p => colOf p n) = some cs) : (ps.map List.length).sum = ps.length := by
  induction ps generalizing cs with
  | nil => rfl
  | cons p r ih =>
    rw [List.mapM_cons] at h
    cases hp : colOf p n with
    | none => simp [hp] at h
    | some c =>
      cases h1 : (r.mapM fun p => colOf p n) with
      | none => simp [hp, h1] at h
      | some d =>
        have h2 : p.length = 1 := by
          unfold colOf at hp
          split at hp
          · rfl
          · cases hp
        simp [h2, ih h1]; omega

theorem mapM_raw_none {ps : List (List UInt8)} {n : Nat} (hn : n ≤ 9) (h : (ps.mapM fun p => colOf p 9) = none) : (ps.mapM fun p => colOf p n) = none := by
  induction ps with
  | nil => simp at h
  | cons p r ih =>
    rw [List.mapM_cons] at h ⊢
    have hc := colOf_raw p n hn
    cases hp : colOf p 9 with
    | none =>
      have hp' : colRaw p = none := hp
      rw [hp'] at hc
      simp [hc]
    | some c =>
      cases h1 : (r.mapM fun p => colOf p 9) with
      | some d => simp [hp, h1] at h
      | none =>
        rw [ih h1]
        cases colOf p n <;> simp

theorem cols_none {x : List UInt8} {n : Nat} (hn : n ≤ 9) (h : colsRaw x = none) {cs : List Nat} (h2 : colsOf x n = some cs) : 9 < cs.length := by
  unfold colsRaw at h
  unfold colsOf at h2
  split at h
  · cases h
  · rename_i hx
    rw [if_neg hx] at h2
    have hl := mapM_len h2
    split at h
    · have h3 := mapM_ones h2
      have h4 := spl_sum 44 x
      have h5 := spl_length 44 x
      omega
    · rw [mapM_raw_none hn h] at h2; cases h2

def pickO (a : List Bool) (o : Option (List Nat)) : Option (List Bool) :=
  match o with
  | none => none
  | some cs => some (pickB a cs)

theorem mapM_pick (a : List Bool) (ha : a.length ≤ 9) : ∀ (ps : List (List UInt8)) (cs : List Nat), (ps.mapM fun p => colOf p 9) = some cs → pickO a (ps.mapM fun p => colOf p a.length) = typesAt a cs := by
  intro ps
  induction ps with
  | nil =>
    intro cs h
    simp at h; subst h
    rfl
  | cons p r ih =>
    intro cs h
    rw [List.mapM_cons] at h ⊢
    have hc := colOf_raw p a.length ha
    cases hp : colOf p 9 with
    | none => simp [hp] at h
    | some c =>
      have hp' : colRaw p = some c := hp
      rw [hp'] at hc
      simp only at hc
      cases h1 : (r.mapM fun p => colOf p 9) with
      | none => simp [hp, h1] at h
      | some d =>
        simp [hp, h1] at h
        subst h
        have ih' := ih d h1
        unfold typesAt at ih' ⊢
        rw [List.mapM_cons, hc]
        by_cases hl : c < a.length
        · rw [if_pos hl, getD_lt hl, ← ih']
          cases hr : (r.mapM fun p => colOf p a.length) with
          | none => simp [pickO]
          | some e => simp [pickO, pickB]
        · rw [if_neg hl, getD_ge hl]
          simp [pickO]

theorem cols_some {x : List UInt8} {a : List Bool} (ha : a.length ≤ 9) {cs : List Nat} (h : colsRaw x = some cs) : pickO a (colsOf x a.length) = typesAt a cs := by
  unfold colsRaw at h
  unfold colsOf
  split at h
  · rename_i hx
    rw [if_pos hx]
    simp at h; subst h; rfl
  · rename_i hx
    rw [if_neg hx]
    split at h
    · cases h
    · exact mapM_pick a ha _ _ h
end Go.Proofs.YtnpjldffciociaaGreatDoor
namespace Go.Proofs.YtnpjldffciociaaGreatDoor

theorem vword_nil : vword [] = .none := by simp [vword]
theorem vword_lt {ws : List (List UInt8)} {i : Nat} (h : vword (wordAt ws i) ≠ .none) : i < ws.length := word_lt (fun e => h (by rw [e, vword_nil]))
theorem vl_lt {ws : List (List UInt8)} {i n : Nat} (h : viewLen (ws.drop i) = some n) : i < ws.length := by
  rcases Nat.lt_or_ge i ws.length with h' | h'
  · exact h'
  · rw [List.drop_of_length_le h'] at h; simp [viewLen_nil] at h
theorem chk_of {len n m : Nat} (h : n ≤ len) (e : n = m) : chk len n = some m := by subst e; simp [chk, h]
theorem drop_len {ws : List (List UInt8)} {i : Nat} (h : i < ws.length) : (ws.drop (i + 1)).length + 1 = ws.length - i := by simp; omega

theorem len0 {ws : List (List UInt8)} {i h : Nat} (hi : i < ws.length) (hh : headR (wordAt ws i) (ws.drop (i + 1)) = some (h, 0)) : viewLen (ws.drop i) = chk (ws.length - i) (h + 1) := by
  rw [word_drop hi, viewLen_cons, hh]
  simp only [if_true, drop_len hi]
theorem len1 {ws : List (List UInt8)} {i h : Nat} (hi : i < ws.length) (hh : headR (wordAt ws i) (ws.drop (i + 1)) = some (h, 1)) : viewLen (ws.drop i) = match viewLen (ws.drop (i + 1 + h)) with
    | none => none
    | some m => chk (ws.length - i) (h + 1 + m) := by
  rw [word_drop hi, viewLen_cons, hh]
  simp only [drop_len hi, List.drop_drop]
  rfl
theorem len2 {ws : List (List UInt8)} {i h : Nat} (hi : i < ws.length) (hh : headR (wordAt ws i) (ws.drop (i + 1)) = some (h, 2)) : viewLen (ws.drop i) = match viewLen (ws.drop (i + 1 + h)) with
    | none => none
    | some m => match viewLen (ws.drop (i + 1 + (h + m))) with
      | none => none
      | some m2 => chk (ws.length - i) (h + 1 + m + m2) := by
  rw [word_drop hi, viewLen_cons, hh]
  simp only [drop_len hi, List.drop_drop]
  rfl
theorem typ0 (ts : List (List UInt8 × List Bool)) {ws : List (List UInt8)} {i h n : Nat} (hn : viewLen (ws.drop i) = some n) (hh : headR (wordAt ws i) (ws.drop (i + 1)) = some (h, 0)) : typesP ts (ws.drop i) = wide (typedP ts (wordAt ws i) (ws.drop (i + 1)) [] []) := by
  have hi := vl_lt hn
  rw [word_drop hi] at hn ⊢
  rw [typesP_cons, hn]
  simp only [hh, if_true]
theorem typ1 (ts : List (List UInt8 × List Bool)) {ws : List (List UInt8)} {i h n : Nat} (hn : viewLen (ws.drop i) = some n) (hh : headR (wordAt ws i) (ws.drop (i + 1)) = some (h, 1)) : typesP ts (ws.drop i) = match typesP ts (ws.drop (i + 1 + h)) with
    | none => none
    | some a => wide (typedP ts (wordAt ws i) (ws.drop (i + 1)) a []) := by
  have hi := vl_lt hn
  rw [word_drop hi] at hn ⊢
  rw [typesP_cons, hn]
  simp only [hh, List.drop_drop]
  rfl
theorem typ2 (ts : List (List UInt8 × List Bool)) {ws : List (List UInt8)} {i h n m : Nat} (hn : viewLen (ws.drop i) = some n) (hh : headR (wordAt ws i) (ws.drop (i + 1)) = some (h, 2)) (hm : viewLen (ws.drop (i + 1 + h)) = some m) : typesP ts (ws.drop i) = match typesP ts (ws.drop (i + 1 + h)), typesP ts (ws.drop (i + 1 + (h + m))) with
    | some a, some b => wide (typedP ts (wordAt ws i) (ws.drop (i + 1)) a b)
    | _, _ => none := by
  have hi := vl_lt hn
  rw [word_drop hi] at hn ⊢
  rw [typesP_cons, hn]
  simp only [hh, List.drop_drop, hm]
  rfl

theorem wideV_some {o : Option (List Bool × Nat)} {p : List Bool × Nat} (h : wideV o = some p) : o = some p ∧ p.1.length ≤ 9 := by
  unfold wideV at h
  split at h
  · cases h
  · split at h
    · cases h; exact ⟨rfl, by assumption⟩
    · cases h
theorem overR_some {ws : List (List UInt8)} {V : Nat → Option (List Bool × Nat)} {i j : Nat} {a t : List Bool} (h : overR ws V i = some (a, t, j)) : V (i + 1) = some (a, j) ∧ ∃ cs, colsRaw (wordAt ws i) = some cs ∧ typesAt a cs = some t := by
  unfold overR at h
  split at h
  · cases h
  · rename_i cs hc
    split at h
    · cases h
    · rename_i hV
      split at h
      · cases h
      · rename_i ht; cases h; exact ⟨hV, cs, hc, ht⟩
theorem twoV_some {V : Nat → Option (List Bool × Nat)} {i j : Nat} {a b : List Bool} (h : twoV V i = some (a, b, j)) : ∃ j1, V i = some (a, j1) ∧ V j1 = some (b, j) := by
  unfold twoV at h
  split at h
  · cases h
  · rename_i hV
    split at h
    · cases h
    · rename_i hV2; cases h; exact ⟨_, hV, hV2⟩
theorem twoV_no1 {V : Nat → Option (List Bool × Nat)} {i : Nat} (h : V i = none) : twoV V i = none := by unfold twoV; rw [h]
theorem twoV_no2 {V : Nat → Option (List Bool × Nat)} {i j : Nat} {a : List Bool} (h : V i = some (a, j)) (h2 : V j = none) : twoV V i = none := by unfold twoV; rw [h]; simp only [h2]
theorem twoV_mk {V : Nat → Option (List Bool × Nat)} {i j j2 : Nat} {a b : List Bool} (h : V i = some (a, j)) (h2 : V j = some (b, j2)) : twoV V i = some (a, b, j2) := by unfold twoV; rw [h]; simp only [h2]
theorem findT_nil {ts : List (List UInt8 × List Bool)} (hn : ∀ t ∈ ts, t.1 ≠ []) : findT ts [] = none := by
  unfold findT
  rw [List.findIdx?_eq_none_iff]
  intro t ht
  simpa using hn t ht
theorem findT_word {ts : List (List UInt8 × List Bool)} (hn : ∀ t ∈ ts, t.1 ≠ []) {ws : List (List UInt8)} {i t : Nat} (h : findT ts (wordAt ws i) = some t) : i < ws.length := word_lt (fun e => by rw [e, findT_nil hn] at h; cases h)

/-- What the program reads, it reads as far as the document counts. -/
theorem parseV_len (ts : List (List UInt8 × List Bool)) (hn : ∀ t ∈ ts, t.1 ≠ []) (ws : List (List UInt8)) : ∀ (k i : Nat) (xs : List Bool) (j : Nat), parseV ts ws k i = some (xs, j) → i < j ∧ j ≤ ws.length ∧ viewLen (ws.drop i) = some (j - i) := by
  intro k
  induction k with
  | zero => intro i xs j h; cases h
  | succ k ih =>
    intro i xs j h
    rw [parseV] at h
    obtain ⟨h, _⟩ := wideV_some h
    have one : ∀ (q j : Nat) (a : List Bool), i < ws.length → headR (wordAt ws i) (ws.drop (i + 1)) = some (q, 1) → parseV ts ws k (i + 1 + q) = some (a, j) → i < j ∧ j ≤ ws.length ∧ viewLen (ws.drop i) = some (j - i) := by
      intro q j a hlt hh hp
      obtain ⟨a1, a2, a3⟩ := ih _ _ _ hp
      refine ⟨by omega, a2, ?_⟩
      rw [len1 hlt hh, a3]
      exact chk_of (by omega) (by omega)
    have two : ∀ (q j : Nat) (a b : List Bool), i < ws.length → headR (wordAt ws i) (ws.drop (i + 1)) = some (q, 2) → twoV (fun j => parseV ts ws k j) (i + 1 + q) = some (a, b, j) → i < j ∧ j ≤ ws.length ∧ viewLen (ws.drop i) = some (j - i) := by
      intro q j a b hlt hh hp
      obtain ⟨j1, hp1, hp2⟩ := twoV_some hp
      obtain ⟨a1, a2, a3⟩ := ih _ _ _ hp1
      obtain ⟨b1, b2, b3⟩ := ih _ _ _ hp2
      refine ⟨by omega, b2, ?_⟩
      rw [len2 hlt hh, a3]
      simp only
      rw [show i + 1 + (q + (j1 - (i + 1 + q))) = j1 by omega, b3]
      exact chk_of (by omega) (by omega)
    unfold viewB at h
    have hlt : i < ws.length := vword_lt (fun e => by rw [e] at h; cases h)
    match hv : vword (wordAt ws i) with
    | (false, false, false) =>
      rw [hv] at h
      simp only at h
      split at h
      · cases h
      · rename_i t ht
        cases h
        have h2 := findT_word hn ht
        refine ⟨by omega, by omega, ?_⟩
        rw [len0 hlt (h := 1) (by unfold headR; rw [hv])]
        exact chk_of (by omega) (by omega)
    | (false, false, true) =>
      rw [hv] at h
      simp only at h
      split at h
      · cases h
      · rename_i c j1 hc
        split at h
        · cases h
        · rename_i a j2 ha
          split at h
          · cases h
            obtain ⟨c1, c2, c3⟩ := parse_len ts false ws _ _ _ _ hc
            refine one (j1 - (i + 1)) _ xs hlt (by unfold headR; rw [hv]; simp only; rw [c3]) ?_
            rw [show i + 1 + (j1 - (i + 1)) = j1 by omega]
            exact ha
          · cases h
    | (false, true, false) =>
      rw [hv] at h
      simp only at h
      split at h
      · cases h
      · rename_i ho
        cases h
        exact one 1 _ _ hlt (by unfold headR; rw [hv]) (overR_some ho).1
    | (false, true, true) =>
      rw [hv] at h
      simp only at h
      split at h
      · cases h
      · rename_i ho
        cases h
        exact one 1 _ _ hlt (by unfold headR; rw [hv]) (overR_some ho).1
    | (true, false, false) =>
      rw [hv] at h
      simp only at h
      split at h
      · cases h
      · split at h
        · cases h
        · rename_i ho
          split at h
          · cases h
            exact one 2 _ _ hlt (by unfold headR; rw [hv]) (overR_some ho).1
          · cases h
    | (true, false, true) =>
      rw [hv] at h
      simp only at h
      split at h
      · cases h
      · split at h
        · cases h
        · split at h
          · cases h
          · rename_i ho
            split at h
            · cases h
              exact two 2 _ _ _ hlt (by unfold headR; rw [hv]) ho
            · cases h
    | (true, true, false) =>
      rw [hv] at h
      simp only at h
      split at h
      · cases h
      · rename_i ho
        split at h
        · cases h
          exact two 0 _ _ _ hlt (by unfold headR; rw [hv]) ho
        · cases h
    | (true, true, true) => rw [hv] at h; cases h
end Go.Proofs.YtnpjldffciociaaGreatDoor
namespace Go.Proofs.YtnpjldffciociaaGreatDoor

theorem wide_map (o : Option (List Bool × Nat)) : (wideV o).map (·.1) = wide (o.map (·.1)) := by
  unfold wideV wide
  cases o with
  | none => rfl
  | some p =>
    obtain ⟨xs, j⟩ := p
    simp only [Option.map_some]
    split <;> rfl
theorem wide_long {xs : List Bool} (h : 9 < xs.length) : wide (some xs) = none := by
  unfold wide
  simp only
  rw [if_neg (by omega)]
theorem pickB_len (a : List Bool) (cs : List Nat) : (pickB a cs).length = cs.length := by simp [pickB]

/-- COLS and the view behind them, by the document. -/
def overD (x : List UInt8) (f : List Bool → List Bool) (sub : Option (List Bool)) : Option (List Bool) :=
  match sub with
  | none => none
  | some a => wide (match colsOf x a.length with
    | none => none
    | some cs => some (f (pickB a cs)))
/-- The same by the program. -/
theorem over_eq (ws : List (List UInt8)) (V : Nat → Option (List Bool × Nat)) (i : Nat) (sub : Option (List Bool)) (hs : sub = (V (i + 1)).map (·.1)) (hl : ∀ a, sub = some a → a.length ≤ 9) (f : List Bool → List Bool) (hf : ∀ t, t.length ≤ (f t).length) :
    overD (wordAt ws i) f sub = wide ((overR ws V i).map fun p => f p.2.1) := by
  unfold overR
  cases hV : V (i + 1) with
  | none =>
    rw [hV] at hs
    subst hs
    cases colsRaw (wordAt ws i) <;> rfl
  | some p =>
    obtain ⟨a, j⟩ := p
    rw [hV] at hs
    subst hs
    have ha := hl a rfl
    simp only [Option.map_some, overD]
    cases hc : colsRaw (wordAt ws i) with
    | none =>
      simp only [Option.map_none]
      cases hco : colsOf (wordAt ws i) a.length with
      | none => rfl
      | some cs =>
        have h9 := cols_none ha hc hco
        exact wide_long (Nat.lt_of_lt_of_le (by rw [pickB_len]; exact h9) (hf _))
    | some cs =>
      have hp := cols_some ha hc
      simp only
      rw [← hp]
      cases colsOf (wordAt ws i) a.length with
      | none => rfl
      | some cs' => rfl

theorem parseV_typ (ts : List (List UInt8 × List Bool)) (hn : ∀ t ∈ ts, t.1 ≠ []) (hts : ∀ t, (ts.getD t ([], [])).2.length ≤ 9) (ws : List (List UInt8)) :
    ∀ (k i n : Nat), ws.length < i + k → viewLen (ws.drop i) = some n → typesP ts (ws.drop i) = (parseV ts ws k i).map (·.1) := by
  intro k
  induction k with
  | zero =>
    intro i n hk h
    have := vl_lt h
    omega
  | succ k ih =>
    intro i n hk h
    have hlt := vl_lt h
    rw [parseV, wide_map]
    unfold viewB
    -- the view within
    have one : ∀ q, headR (wordAt ws i) (ws.drop (i + 1)) = some (q, 1) → (∃ m, viewLen (ws.drop (i + 1 + q)) = some m) ∧ typesP ts (ws.drop (i + 1 + q)) = (parseV ts ws k (i + 1 + q)).map (·.1) := by
      intro q hh
      have hL := len1 hlt hh
      rw [h] at hL
      cases hs : viewLen (ws.drop (i + 1 + q)) with
      | none => rw [hs] at hL; cases hL
      | some m => exact ⟨⟨m, rfl⟩, ih (i + 1 + q) m (by omega) hs⟩
    have two : ∀ q, headR (wordAt ws i) (ws.drop (i + 1)) = some (q, 2) → ∀ (f : List Bool → List Bool → Option (List Bool)) (g : List Bool → List Bool → Nat → Option (List Bool × Nat)), (∀ a b, typedP ts (wordAt ws i) (ws.drop (i + 1)) a b = f a b) → (∀ a b j, a.length ≤ 9 → b.length ≤ 9 → (g a b j).map (·.1) = f a b) →
        typesP ts (ws.drop i) = wide (Option.map (fun p : List Bool × Nat => p.1) (match twoV (fun j => parseV ts ws k j) (i + 1 + q) with
          | none => none
          | some (a, b, j) => g a b j)) := by
      intro q hh f g hf hg
      have hL := len2 hlt hh
      rw [h] at hL
      cases hs : viewLen (ws.drop (i + 1 + q)) with
      | none => rw [hs] at hL; cases hL
      | some m =>
        rw [hs] at hL
        simp only at hL
        rw [typ2 ts h hh hs, ih (i + 1 + q) m (by omega) hs]
        cases hp : parseV ts ws k (i + 1 + q) with
        | none =>
          rw [twoV_no1 (V := fun j => parseV ts ws k j) hp]
          cases typesP ts (ws.drop (i + 1 + (q + m))) <;> rfl
        | some p =>
          obtain ⟨a, j⟩ := p
          have hle := (typesP_le (ts := ts) (l := ws.drop (i + 1 + q)) (xs := a) (by rw [ih (i + 1 + q) m (by omega) hs, hp]; rfl))
          obtain ⟨a1, a2, a3⟩ := parseV_len ts hn ws _ _ _ _ hp
          rw [hs] at a3
          have hm : m = j - (i + 1 + q) := by simpa using a3
          rw [show i + 1 + (q + m) = j by omega] at hL ⊢
          cases hs2 : viewLen (ws.drop j) with
          | none => rw [hs2] at hL; cases hL
          | some m2 =>
            have hi2 := ih j m2 (by omega) hs2
            rw [hi2]
            cases hp2 : parseV ts ws k j with
            | none => rw [twoV_no2 (V := fun j => parseV ts ws k j) hp hp2]; rfl
            | some p2 =>
              obtain ⟨b, j2⟩ := p2
              have hle2 := (typesP_le (ts := ts) (l := ws.drop j) (xs := b) (by rw [hi2, hp2]; rfl))
              rw [twoV_mk (V := fun j => parseV ts ws k j) hp hp2]
              simp only [Option.map_some]
              rw [hf, hg a b j2 hle hle2]
    match hv : vword (wordAt ws i) with
    | (false, false, false) =>
      simp only
      rw [typ0 ts h (h := 1) (by unfold headR; rw [hv])]
      unfold typedP
      rw [hv]
      simp only [wordAt_drop2]
      show wide (match findT ts (wordAt ws (i + 1)) with
        | none => none
        | some t => some (ts.getD t ([], [])).2) = _
      cases findT ts (wordAt ws (i + 1)) <;> rfl
    | (false, false, true) =>
      simp only
      cases hcl : condLen (ws.drop (i + 1)) with
      | none =>
        rw [word_drop hlt, viewLen_cons] at h
        have : headR (wordAt ws i) (ws.drop (i + 1)) = none := by unfold headR; rw [hv]; simp only; rw [hcl]
        rw [this] at h
        cases h
      | some q =>
        have hh : headR (wordAt ws i) (ws.drop (i + 1)) = some (q, 1) := by unfold headR; rw [hv]; simp only; rw [hcl]
        obtain ⟨⟨m, hm⟩, hsub⟩ := one q hh
        have hq := vl_lt hm
        rw [typ1 ts h hh]
        have htp : ∀ a, typedP ts (wordAt ws i) (ws.drop (i + 1)) a [] = if condP ts a false (ws.drop (i + 1)) then some a else none := by intro a; unfold typedP; rw [hv]
        simp only [htp]
        cases hc : parseC ts false ws k (i + 1) with
        | none =>
          simp only [Option.map_none]
          cases hs : typesP ts (ws.drop (i + 1 + q)) with
          | none => rfl
          | some a =>
            simp only
            rw [parse_none ts a false ws (typesP_le hs) hts k (i + 1) (by omega) hc q hcl (by omega)]
            rfl
        | some p =>
          obtain ⟨c, j⟩ := p
          obtain ⟨c1, c2, c3⟩ := parse_len ts false ws _ _ _ _ hc
          rw [hcl] at c3
          have hqj : q = j - (i + 1) := by simpa using c3
          have hj : i + 1 + q = j := by omega
          rw [hj] at hsub ⊢
          simp only
          cases hp : parseV ts ws k j with
          | none => rw [hsub, hp]; rfl
          | some p2 =>
            obtain ⟨a, j2⟩ := p2
            have hs : typesP ts (ws.drop j) = some a := by rw [hsub, hp]; rfl
            rw [hs]
            simp only
            rw [parse_fit ts a false ws (typesP_le hs) hts _ _ _ _ hc]
            cases fitC ts a c <;> rfl
    | (false, true, false) =>
      have hh : headR (wordAt ws i) (ws.drop (i + 1)) = some (1, 1) := by unfold headR; rw [hv]
      obtain ⟨_, hsub⟩ := one 1 hh
      rw [typ1 ts h hh]
      have htp : ∀ a, typedP ts (wordAt ws i) (ws.drop (i + 1)) a [] = match colsOf (wordAt ws (i + 1)) a.length with
          | none => none
          | some cs => some (pickB a cs) := by intro a; unfold typedP; rw [hv]; simp only [wordAt_drop2]; try rfl
      simp only [htp]
      refine (over_eq ws (fun j => parseV ts ws k j) (i + 1) _ hsub (fun a e => typesP_le e) id (fun t => Nat.le_refl _)).trans ?_
      cases overR ws (fun j => parseV ts ws k j) (i + 1) <;> rfl
    | (false, true, true) =>
      have hh : headR (wordAt ws i) (ws.drop (i + 1)) = some (1, 1) := by unfold headR; rw [hv]
      obtain ⟨_, hsub⟩ := one 1 hh
      rw [typ1 ts h hh]
      have htp : ∀ a, typedP ts (wordAt ws i) (ws.drop (i + 1)) a [] = match colsOf (wordAt ws (i + 1)) a.length with
          | none => none
          | some cs => some (pickB a cs ++ [false]) := by intro a; unfold typedP; rw [hv]; simp only [wordAt_drop2]; try rfl
      simp only [htp]
      refine (over_eq ws (fun j => parseV ts ws k j) (i + 1) _ hsub (fun a e => typesP_le e) (fun t => t ++ [false]) (fun t => by simp)).trans ?_
      cases overR ws (fun j => parseV ts ws k j) (i + 1) <;> rfl
    | (true, false, false) =>
      have hh : headR (wordAt ws i) (ws.drop (i + 1)) = some (2, 1) := by unfold headR; rw [hv]
      obtain ⟨_, hsub⟩ := one 2 hh
      rw [typ1 ts h hh]
      have htp : ∀ a, typedP ts (wordAt ws i) (ws.drop (i + 1)) a [] = match colsOf (wordAt ws (i + 2)) a.length with
          | none => none
          | some cs => match colOf (wordAt ws (i + 1)) a.length with
            | none => none
            | some c => if a.getD c false then none else some (pickB a cs ++ [false]) := by intro a; unfold typedP; rw [hv]; simp only [wordAt_drop2]; try rfl
      simp only [htp]
      rw [hsub]
      unfold overR
      show (match (parseV ts ws k (i + 3)).map (·.1) with
        | none => none
        | some a => _) = _
      cases hp : parseV ts ws k (i + 3) with
      | none =>
        have hp' : parseV ts ws k (i + 2 + 1) = none := hp
        cases colRaw (wordAt ws (i + 1)) <;> cases colsRaw (wordAt ws (i + 2)) <;> simp only [hp'] <;> rfl
      | some p =>
        obtain ⟨a, j⟩ := p
        have hp' : parseV ts ws k (i + 2 + 1) = some (a, j) := hp
        have ha : a.length ≤ 9 := typesP_le (ts := ts) (l := ws.drop (i + 1 + 2)) (by rw [hsub]; show (parseV ts ws k (i + 3)).map (·.1) = some a; rw [hp]; rfl)
        have hcr := colOf_raw (wordAt ws (i + 1)) a.length ha
        simp only [Option.map_some, hp']
        cases hc1 : colRaw (wordAt ws (i + 1)) with
        | none =>
          rw [hc1] at hcr
          rw [hcr]
          cases colsOf (wordAt ws (i + 2)) a.length <;> rfl
        | some c =>
          rw [hc1] at hcr
          simp only at hcr
          rw [hcr]
          cases hcs : colsRaw (wordAt ws (i + 2)) with
          | none =>
            simp only [Option.map_none]
            cases hco : colsOf (wordAt ws (i + 2)) a.length with
            | none => rfl
            | some cs =>
              have h9 := cols_none ha hcs hco
              simp only
              split
              · rfl
              · split
                · rfl
                · exact wide_long (by simp [pickB_len]; omega)
          | some cs =>
            have hpk := cols_some ha hcs
            simp only
            rw [← hpk]
            cases colsOf (wordAt ws (i + 2)) a.length with
            | none => rfl
            | some cs' =>
              simp only [pickO]
              by_cases hal : c < a.length
              · rw [if_pos hal, getD_lt hal]
                simp only
                cases a.getD c false <;> rfl
              · rw [if_neg hal, getD_ge hal]
                rfl
    | (true, false, true) =>
      have hh : headR (wordAt ws i) (ws.drop (i + 1)) = some (2, 2) := by unfold headR; rw [hv]
      simp only
      have htp : ∀ a b, typedP ts (wordAt ws i) (ws.drop (i + 1)) a b = match colOf (wordAt ws (i + 1)) a.length, colOf (wordAt ws (i + 2)) b.length with
          | some c, some d => if a.getD c false == b.getD d false then some (a ++ b) else none
          | _, _ => none := by intro a b; unfold typedP; rw [hv]; simp only [wordAt_drop2]; try rfl
      cases hc1 : colRaw (wordAt ws (i + 1)) with
      | none =>
        simp only
        rw [two 2 hh _ (fun _ _ _ => none) htp (fun a b j ha hb => by rw [colOf_raw _ _ ha, hc1]; rfl)]
        cases twoV (fun j => parseV ts ws k j) (i + 1 + 2) <;> rfl
      | some c =>
        simp only
        cases hc2 : colRaw (wordAt ws (i + 2)) with
        | none =>
          simp only
          rw [two 2 hh _ (fun _ _ _ => none) htp (fun a b j ha hb => by
            rw [colOf_raw _ _ ha, colOf_raw _ _ hb, hc1, hc2]
            simp only
            cases (if c < a.length then some c else none) <;> rfl)]
          cases twoV (fun j => parseV ts ws k j) (i + 1 + 2) <;> rfl
        | some d =>
          simp only
          refine two 2 hh _ (fun a b j => if alikeO a c b d then some (a ++ b, j) else none) htp (fun a b j ha hb => ?_)
          rw [colOf_raw _ _ ha, colOf_raw _ _ hb, hc1, hc2]
          simp only
          unfold alikeO
          by_cases h1 : c < a.length
          · rw [if_pos h1, getD_lt h1]
            by_cases h2 : d < b.length
            · rw [if_pos h2, getD_lt h2]
              simp only
              cases a.getD c false <;> cases b.getD d false <;> rfl
            · rw [if_neg h2, getD_ge h2]
              rfl
          · rw [if_neg h1, getD_ge h1]
            rfl
    | (true, true, false) =>
      have hh : headR (wordAt ws i) (ws.drop (i + 1)) = some (0, 2) := by unfold headR; rw [hv]
      simp only
      refine two 0 hh (fun a b => if a == b then some a else none) (fun a b j => if a = b then some (a, j) else none) (fun a b => by unfold typedP; rw [hv]) (fun a b j _ _ => ?_)
      by_cases e : a = b
      · simp [e]
      · simp [e]
    | (true, true, true) =>
      rw [word_drop hlt, viewLen_cons] at h
      have : headR (wordAt ws i) (ws.drop (i + 1)) = none := by unfold headR; rw [hv]
      rw [this] at h
      cases h

/-- What the document makes of a view's text, by what the program reads. -/
theorem top_eq (ts : List (List UInt8 × List Bool)) (hn : ∀ t ∈ ts, t.1 ≠ []) (hts : ∀ t, (ts.getD t ([], [])).2.length ≤ 9) (l : List UInt8) (hl : (spl 32 l).length ≤ 60) (k : Nat) (hk : (spl 32 l).length < k) :
    typesTop ts l = match parseV ts (spl 32 l) k 0 with
      | none => none
      | some (xs, j) => if (spl 32 l).length ≤ j then some xs else none := by
  unfold typesTop
  rw [if_neg (by omega)]
  by_cases hv : viewLen (spl 32 l) = some (spl 32 l).length
  · rw [if_pos hv]
    have ht := parseV_typ ts hn hts (spl 32 l) k 0 _ (by omega) hv
    rw [List.drop_zero] at ht
    rw [ht]
    cases hp : parseV ts (spl 32 l) k 0 with
    | none => rfl
    | some p =>
      obtain ⟨xs, j⟩ := p
      obtain ⟨h1, h2, h3⟩ := parseV_len ts hn (spl 32 l) _ _ _ _ hp
      rw [List.drop_zero, hv] at h3
      have : (spl 32 l).length = j - 0 := Option.some.inj h3
      simp only [Option.map_some]
      rw [if_pos (by omega)]
  · rw [if_neg hv]
    cases hp : parseV ts (spl 32 l) k 0 with
    | none => rfl
    | some p =>
      obtain ⟨xs, j⟩ := p
      obtain ⟨h1, h2, h3⟩ := parseV_len ts hn (spl 32 l) _ _ _ _ hp
      rw [List.drop_zero] at h3
      simp only
      rw [if_neg]
      intro h4
      exact hv (by rw [h3]; congr 1; omega)
end Go.Proofs.YtnpjldffciociaaGreatDoor
