import Derived.Test.YtnpjldffciociaaGreatDoorB08
import Derived.Test.YtnpjldffciociaaGreatDoorB07
namespace Go.Proofs.YtnpjldffciociaaGreatDoor
open Go.RowKit

/-- 'eq', 'lt', 'same' (0, 1, 2) of two words. -/
def threeP (text : List Bool) (k : Nat) (x1 x2 : List UInt8) : Bool :=
  match colOf x1 text.length with
  | none => false
  | some a =>
    if k = 0 then (valKind x2 == some (text.getD a false)) || (x2 == wMe && text.getD a false)
    else if k = 1 then (valKind x2 == some false) && !(text.getD a false)
    else match colOf x2 text.length with
      | none => false
      | some b => text.getD a false == text.getD b false
def inP (ts : List (List UInt8 × List Bool)) (text : List Bool) (law : Bool) (x1 x2 x3 x4 : List UInt8) : Bool :=
  match colOf x1 text.length with
  | none => false
  | some a => law && isInP ts x2 x3 x4 (text.getD a false)

/-- Is the condition, with which these words begin, right? By so many steps at most. -/
def condPF (ts : List (List UInt8 × List Bool)) (text : List Bool) (law : Bool) : Nat → List (List UInt8) → Bool
  | 0, _ => false
  | _ + 1, [] => false
  | n + 1, x :: r =>
    match cword x with
    | .inr (some (false, false)) => true
    | .inl k => threeP text k (wordAt r 0) (wordAt r 1)
    | .inr (some (false, true)) => inP ts text law (wordAt r 0) (wordAt r 1) (wordAt r 2) (wordAt r 3)
    | .inr (some (true, false)) => condPF ts text law n r
    | .inr (some (true, true)) => match condLen r with
      | none => false
      | some a => condPF ts text law n r && condPF ts text law n (r.drop a)
    | .inr none => false
/-- Is the condition, with which these words begin, right? -/
def condP (ts : List (List UInt8 × List Bool)) (text : List Bool) (law : Bool) (l : List (List UInt8)) : Bool := condPF ts text law (l.length + 1) l
theorem condPF_le (ts : List (List UInt8 × List Bool)) (text : List Bool) (law : Bool) : ∀ (k : Nat) (l : List (List UInt8)), l.length < k → ∀ k', l.length < k' → condPF ts text law k l = condPF ts text law k' l := by
  intro k
  induction k with
  | zero => intro l h; omega
  | succ k ih =>
    intro l h k' h'
    match k', h' with
    | 0, h' => omega
    | k' + 1, h' =>
      match l, h, h' with
      | [], _, _ => rfl
      | x :: r, h, h' =>
        simp at h h'
        have e1 := ih r (by omega) k' (by omega)
        have e2 : ∀ a, condPF ts text law k (r.drop a) = condPF ts text law k' (r.drop a) := fun a => ih (r.drop a) (by simp; omega) k' (by simp; omega)
        simp only [condPF, e1, e2]
theorem condP_nil (ts : List (List UInt8 × List Bool)) (text : List Bool) (law : Bool) : condP ts text law [] = false := rfl
theorem condP_cons (ts : List (List UInt8 × List Bool)) (text : List Bool) (law : Bool) (x : List UInt8) (r : List (List UInt8)) : condP ts text law (x :: r) =
    match cword x with
    | .inr (some (false, false)) => true
    | .inl k => threeP text k (wordAt r 0) (wordAt r 1)
    | .inr (some (false, true)) => inP ts text law (wordAt r 0) (wordAt r 1) (wordAt r 2) (wordAt r 3)
    | .inr (some (true, false)) => condP ts text law r
    | .inr (some (true, true)) => match condLen r with
      | none => false
      | some a => condP ts text law r && condP ts text law (r.drop a)
    | .inr none => false := by
  have e2 : ∀ a, condPF ts text law (r.length + 1) (r.drop a) = condP ts text law (r.drop a) := fun a => condPF_le ts text law _ _ (by simp; omega) _ (by simp)
  show condPF ts text law (r.length + 1 + 1) (x :: r) = _
  simp only [condPF, e2]
  rfl

def condAt (ts : List (List UInt8 × List Bool)) (text : List Bool) (law : Bool) (ws : List (List UInt8)) (i n : Nat) : Bool :=
  decide (condLen (ws.drop i) = some n ∧ i + n ≤ ws.length) && condP ts text law (ws.drop i)

theorem Reads.bools {w : World} {v : Value} {xs : List Bool} (h : Reads w v (xs.map .bool)) {j : Nat} (hj : j < xs.length) :
    ∃ b off cap, v = .slice (some ⟨b, off, none⟩) xs.length cap ∧ b < w.heap.size ∧ ∀ k, k < xs.length → w.cell? ⟨b, off + k, none⟩ = some (.bool (xs.getD k false)) := by
  obtain ⟨a, cap, rfl, h⟩ := h
  obtain ⟨b, off, rfl, hb, hc⟩ := h j (.bool (xs[j])) (by simp [hj])
  refine ⟨b, off, cap, by simp, hb, fun k hk => ?_⟩
  obtain ⟨b', off', e, _, hc'⟩ := h k (.bool (xs[k])) (by simp [hk])
  obtain ⟨rfl, rfl⟩ : b = b' ∧ off = off' := by simpa using e
  rw [hc']; simp [List.getD, hk]

theorem wordAt_drop2 (ws : List (List UInt8)) (i j : Nat) : wordAt (ws.drop i) j = wordAt ws (i + j) := by simp [wordAt]

theorem below_of_eq {w w' : World} (h : w' = w) : Below w.heap.size w w' := by subst h; exact Below.refl _ _

theorem cword_any : cword wAny = .any := by simp [cword]
theorem cword_eq : cword wEq = .three 0 := by simp [cword]
theorem cword_lt : cword wLt = .three 1 := by simp [cword]
theorem cword_same : cword wSame = .three 2 := by simp [cword]
theorem cword_in : cword wIn = .isin := by simp [cword]
theorem cword_not : cword wNot = .neg := by simp [cword]
theorem cword_and : cword wAnd = .two := by simp [cword]
theorem cword_or : cword wOr = .two := by simp [cword]

set_option maxRecDepth 10000 in
set_option maxHeartbeats 1000000 in
theorem isCond_any (ts : List (List UInt8 × List Bool)) (ws : List (List UInt8)) (text : List Bool) (law : Bool) (hl : ws.length ≤ 1048577) (hpos : 0 < ws.length) (hlt : ts.length ≤ 1048577)
    (hlc : ∀ t, (ts.getD t ([], [])).2.length ≤ 1048577) (hwl : ∀ j, (wordAt ws j).length ≤ 1048577) (hxl : text.length ≤ 1048577) (k : Nat) :
    ∀ (vs vw vt : Value) (i n : Nat) (w : World), ws.length < i + k → i ≤ 16777216 → n ≤ 16777216 → ReadsTabs Value.bool w vs ts → Reads w vw (ws.map fun l => .string (bs l)) → Reads w vt (text.map .bool) →
    Calls Tryz.prog 162 #[vs, vw, .int .i64 i, .int .i64 n, vt, .bool law] w fun e w' => e = .returned (.bool (condAt ts text law ws i n)) ∧ Below w.heap.size w w' := by
  induction k with
  | zero =>
    intro vs vw vt i n w hk hi hn hvs hvw hvt
    have hd : ws.drop i = [] := List.drop_of_length_le (by omega)
    have hcl := condLen_any ws hl 0 vw i w hk hi hvw
    obtain ⟨b, off, cap, rfl, hcell⟩ := hvw.row (i := 0) hpos
    rw [hd] at hcl
    simp only [condLen_nil, idxOf] at hcl
    have e : condAt ts text law ws i n = false := by simp [condAt, hd, condLen_nil]
    rw [e]
    exact (ic_len w vs b off _ cap i n vt law hi hn hl (-1) (by omega) hcl).mono fun e w' ⟨h1, h2⟩ => ⟨h1, below_of_eq h2⟩
  | succ k ih =>
    intro vs vw vt i n w hk hi hn hvs hvw hvt
    have hcl := condLen_any ws hl (k + 1) vw i w hk hi hvw
    obtain ⟨b, off, cap, rfl, hcell⟩ := hvw.row (i := 0) hpos
    by_cases hcn : condLen (ws.drop i) = some n
    case neg =>
      have e : condAt ts text law ws i n = false := by simp [condAt, hcn]
      rw [e]
      refine (ic_len w vs b off _ cap i n vt law hi hn hl _ ?_ hcl).mono fun e w' ⟨h1, h2⟩ => ⟨h1, below_of_eq h2⟩
      intro h
      cases hc : condLen (ws.drop i) with
      | none => rw [hc] at h; simp [idxOf] at h
      | some m => rw [hc] at h hcn; simp [idxOf] at h; exact hcn (by have : m = n := by omega
                                                                     rw [this])
    case pos =>
    rw [hcn] at hcl
    simp only [idxOf] at hcl
    by_cases hout : ws.length < i + n
    · have e : condAt ts text law ws i n = false := by simp [condAt]; intro _ h; omega
      rw [e]
      exact (ic_out w vs b off _ cap i n vt law hi hn hl hout hcl).mono fun e w' ⟨h1, h2⟩ => ⟨h1, below_of_eq h2⟩
    have hin : i + n ≤ ws.length := by omega
    have hn1 := (condLen_le _ _ (Nat.le_refl _) n hcn).2
    have e : condAt ts text law ws i n = condP ts text law (ws.drop i) := by simp [condAt, hcn, hin]
    rw [e]
    rcases wordAt_drop ws i with ⟨x, r, h1, h2, h3, h4⟩ | ⟨h1, h2, h3⟩
    case inr => omega
    have hci := hcell i h4
    rw [h2] at hci
    rw [h1] at hcn ⊢
    have hrw : ∀ j, wordAt r j = wordAt ws (i + 1 + j) := fun j => by rw [← h3, wordAt_drop2]
    have hbw : b < w.heap.size := by
      obtain ⟨a, cap', e1, h5⟩ := hvw
      obtain ⟨b', off', e2, hb', _⟩ := h5 i (.string (bs ws[i])) (by simp [h4])
      simp at e1
      rw [← e1.1] at e2
      simp at e2
      rw [e2.1]; exact hb'
    have ih1 : ∀ m, m ≤ 16777216 → condLen r = some m → i + 1 + m ≤ ws.length → ∀ w1, Below w.heap.size w w1 →
        Calls Tryz.prog 162 #[vs, .slice (some ⟨b, off, none⟩) ws.length cap, .int .i64 ((i : Int) + 1), .int .i64 (m : Int), vt, .bool law] w1 fun e w' => e = .returned (.bool (condP ts text law r)) ∧ Below w1.heap.size w1 w' := by
      intro m hm hcm hle w1 hb1
      have := ih vs (.slice (some ⟨b, off, none⟩) ws.length cap) vt (i + 1) m w1 (by omega) (by omega) hm (hvs.below hb1) (hvw.below hb1) (hvt.below hb1)
      have e2 : condAt ts text law ws (i + 1) m = condP ts text law r := by simp [condAt, h3, hcm, hle]
      rw [e2] at this
      simpa using this
    have ih2 : ∀ a m, a ≤ 8388608 → m ≤ 16777216 → condLen (r.drop a) = some m → i + 1 + a + m ≤ ws.length → ∀ w1, Below w.heap.size w w1 →
        Calls Tryz.prog 162 #[vs, .slice (some ⟨b, off, none⟩) ws.length cap, .int .i64 ((i : Int) + 1 + a), .int .i64 (m : Int), vt, .bool law] w1 fun e w' => e = .returned (.bool (condP ts text law (r.drop a))) ∧ Below w1.heap.size w1 w' := by
      intro a m ha hm hcm hle w1 hb1
      have := ih vs (.slice (some ⟨b, off, none⟩) ws.length cap) vt (i + 1 + a) m w1 (by omega) (by omega) hm (hvs.below hb1) (hvw.below hb1) (hvt.below hb1)
      have h3' : ws.drop (i + 1 + a) = r.drop a := by rw [← h3, List.drop_drop]
      have e2 : condAt ts text law ws (i + 1 + a) m = condP ts text law (r.drop a) := by simp [condAt, h3', hcm, hle]
      rw [e2] at this
      simpa using this
    have hcl1 : Calls Tryz.prog 205 #[.slice (some ⟨b, off, none⟩) ws.length cap, .int .i64 ((i : Int) + 1)] w fun e w' => e = .returned (.int .i64 (idxOf (condLen r))) ∧ w' = w := by
      have := condLen_any ws hl (k + 1) (.slice (some ⟨b, off, none⟩) ws.length cap) (i + 1) w (by omega) (by omega) hvw
      rw [h3] at this
      simpa using this
    have hx1 := hcell (i + 1)
    have hx2 := hcell (i + 2)
    rw [condP_cons]
    rw [condLen_cons] at hcn
    by_cases e1 : x = wAny
    · subst e1
      rw [cword_any]
      exact (ic_any w vs b off _ cap i n vt law hi hn hl hin h4 hci hcl).mono fun e w' ⟨h1, h2⟩ => ⟨h1, below_of_eq h2⟩
    by_cases e6 : x = wNot
    · subst e6
      rw [cword_not] at hcn ⊢
      cases ha : condLen r with
      | none => simp [ha] at hcn
      | some a =>
        simp [ha] at hcn
        have := ih1 a (by omega) ha (by omega) w (Below.refl _ _)
        have e2 : (a : Int) = (n : Int) - 1 := by omega
        rw [e2] at this
        exact ic_not w vs b off _ cap i n vt law hi hn hl _ hn1 hin h4 hci hcl this
    by_cases e7 : x = wAnd
    · subst e7
      rw [cword_and] at hcn ⊢
      cases ha : condLen r with
      | none => simp [ha] at hcn
      | some a =>
        cases hb : condLen (r.drop a) with
        | none => simp [ha, hb] at hcn
        | some m =>
          simp [ha, hb] at hcn
          rw [ha] at hcl1
          refine ic_and w vs b off _ cap i n vt law hi hn hl a _ _ (by omega) hin h4 hci hcl hcl1 (ih1 a (by omega) ha (by omega) w (Below.refl _ _)) ?_
          intro w1 hb1
          have := ih2 a m (by omega) (by omega) hb (by omega) w1 hb1
          have e2 : (m : Int) = (n : Int) - 1 - a := by omega
          rw [e2] at this
          exact this
    by_cases e8 : x = wOr
    · subst e8
      rw [cword_or] at hcn ⊢
      cases ha : condLen r with
      | none => simp [ha] at hcn
      | some a =>
        cases hb : condLen (r.drop a) with
        | none => simp [ha, hb] at hcn
        | some m =>
          simp [ha, hb] at hcn
          rw [ha] at hcl1
          refine ic_or w vs b off _ cap i n vt law hi hn hl a _ _ (by omega) hin h4 hci hcl hcl1 (ih1 a (by omega) ha (by omega) w (Below.refl _ _)) ?_
          intro w1 hb1
          have := ih2 a m (by omega) (by omega) hb (by omega) w1 hb1
          have e2 : (m : Int) = (n : Int) - 1 - a := by omega
          rw [e2] at this
          exact this
    clear ih ih1 ih2 hcl1
    have n1 : (x == wAny) = false := by simp [e1]
    have n2 : (x == wNot) = false := by simp [e6]
    have n3 : (x == wAnd) = false := by simp [e7]
    have n4 : (x == wOr) = false := by simp [e8]
    obtain ⟨at_, nt, capt, rfl, hnt⟩ : ∃ a nt cap, vt = .slice a nt cap ∧ nt = text.length := by
      obtain ⟨a, cap, rfl, _⟩ := hvt
      exact ⟨a, _, cap, rfl, by simp⟩
    subst hnt
    have ha := column_any (bs (wordAt ws (i + 1))) text.length w (by have := hwl (i + 1); simp [maxLen]; omega)
    have hb := column_any (bs (wordAt ws (i + 2))) text.length w (by have := hwl (i + 2); simp [maxLen]; omega)
    have hv := readValue_any (bs (wordAt ws (i + 2))) w (by have := hwl (i + 2); simp; omega)
    rw [bs_toList] at ha hb hv
    by_cases e2 : x = wEq
    · subst e2
      rw [cword_eq] at hcn ⊢
      simp only [Option.some.injEq] at hcn
      have hi2 : i + 2 < ws.length := by omega
      have hx1 := hx1 (by omega)
      have hx2 := hx2 (by omega)
      simp only [threeP, hrw, Nat.add_zero, Nat.add_assoc, Nat.reduceAdd]
      cases hca : colOf (wordAt ws (i + 1)) text.length with
      | none =>
        rw [hca] at ha
        exact (ic_noa w vs b off _ cap i n at_ _ capt law hi hn hl hxl hin hi2 hbw _ _ _ hci hx1 hx2 n1 n2 n3 n4 hcl ha).mono fun e w' ⟨h1, h2⟩ => ⟨h1, below_of_eq h2⟩
      | some a =>
        rw [hca] at ha
        have hal := (colOf_lt hca).1
        obtain ⟨bt, offt, capt', ev, hbt, hcb⟩ := hvt.bools hal
        simp only [Value.slice.injEq] at ev
        obtain ⟨rfl, -, rfl⟩ := ev
        simp only [if_true]
        exact ic_eq w vs b off _ cap i n _ capt law hi hn hl hxl bt offt a _ (hcb a hal) hbt hal _ hin hi2 hbw _ _ _ hci hx1 hx2 n1 n2 n3 n4 rfl rfl rfl hcl ha _ hb hv
    by_cases e3 : x = wLt
    · subst e3
      rw [cword_lt] at hcn ⊢
      simp only [Option.some.injEq] at hcn
      have hi2 : i + 2 < ws.length := by omega
      have hx1 := hx1 (by omega)
      have hx2 := hx2 (by omega)
      simp only [threeP, hrw, Nat.add_zero, Nat.add_assoc, Nat.reduceAdd]
      cases hca : colOf (wordAt ws (i + 1)) text.length with
      | none =>
        rw [hca] at ha
        exact (ic_noa w vs b off _ cap i n at_ _ capt law hi hn hl hxl hin hi2 hbw _ _ _ hci hx1 hx2 n1 n2 n3 n4 hcl ha).mono fun e w' ⟨h1, h2⟩ => ⟨h1, below_of_eq h2⟩
      | some a =>
        rw [hca] at ha
        have hal := (colOf_lt hca).1
        obtain ⟨bt, offt, capt', ev, hbt, hcb⟩ := hvt.bools hal
        simp only [Value.slice.injEq] at ev
        obtain ⟨rfl, -, rfl⟩ := ev
        simp only [if_true, Nat.one_ne_zero, if_false]
        exact ic_lt w vs b off _ cap i n _ capt law hi hn hl hxl bt offt a _ (hcb a hal) hbt hal _ hin hi2 hbw _ _ _ hci hx1 hx2 n1 n2 n3 n4 rfl rfl rfl hcl ha _ hb hv
    by_cases e4 : x = wSame
    · subst e4
      rw [cword_same] at hcn ⊢
      simp only [Option.some.injEq] at hcn
      have hi2 : i + 2 < ws.length := by omega
      have hx1 := hx1 (by omega)
      have hx2 := hx2 (by omega)
      simp only [threeP, hrw, Nat.add_zero, Nat.add_assoc, Nat.reduceAdd]
      cases hca : colOf (wordAt ws (i + 1)) text.length with
      | none =>
        rw [hca] at ha
        exact (ic_noa w vs b off _ cap i n at_ _ capt law hi hn hl hxl hin hi2 hbw _ _ _ hci hx1 hx2 n1 n2 n3 n4 hcl ha).mono fun e w' ⟨h1, h2⟩ => ⟨h1, below_of_eq h2⟩
      | some a =>
        rw [hca] at ha
        have hal := (colOf_lt hca).1
        obtain ⟨bt, offt, capt', ev, hbt, hcb⟩ := hvt.bools hal
        simp only [Value.slice.injEq] at ev
        obtain ⟨rfl, -, rfl⟩ := ev
        simp only [show ¬ (2 = 0) by decide, show ¬ (2 = 1) by decide, if_false]
        cases hcq : colOf (wordAt ws (i + 2)) text.length with
        | none =>
          rw [hcq] at hb
          exact ic_same_no w vs b off _ cap i n _ capt law hi hn hl hxl bt offt a _ (hcb a hal) hbt hal _ hin hi2 hbw _ _ _ hci hx1 hx2 n1 n2 n3 n4 rfl rfl rfl hcl ha _ (by simp [idxOf]) hb hv
        | some q =>
          rw [hcq] at hb
          have hql := (colOf_lt hcq).1
          exact ic_same_yes w vs b off _ cap i n _ capt law hi hn hl hxl bt offt a _ (hcb a hal) hbt hal _ hin hi2 hbw _ _ _ hci hx1 hx2 n1 n2 n3 n4 rfl rfl rfl hcl ha q _ hql (hcb q hql) hb hv
    by_cases e5 : x = wIn
    · subst e5
      rw [cword_in] at hcn ⊢
      simp only [Option.some.injEq] at hcn
      have hi2 : i + 2 < ws.length := by omega
      have hx1 := hx1 (by omega)
      have hx2 := hx2 (by omega)
      simp only [inP, hrw, Nat.add_zero, Nat.add_assoc, Nat.reduceAdd]
      cases hca : colOf (wordAt ws (i + 1)) text.length with
      | none =>
        rw [hca] at ha
        exact (ic_noa w vs b off _ cap i n at_ _ capt law hi hn hl hxl hin hi2 hbw _ _ _ hci hx1 hx2 n1 n2 n3 n4 hcl ha).mono fun e w' ⟨h1, h2⟩ => ⟨h1, below_of_eq h2⟩
      | some a =>
        rw [hca] at ha
        have hal := (colOf_lt hca).1
        obtain ⟨bt, offt, capt', ev, hbt, hcb⟩ := hvt.bools hal
        simp only [Value.slice.injEq] at ev
        obtain ⟨rfl, -, rfl⟩ := ev
        refine ic_in w vs b off _ cap i n _ capt law hi hn hl hxl bt offt a _ (hcb a hal) hbt hal _ hin hi2 hbw _ _ _ hci hx1 hx2 n1 n2 n3 n4 rfl rfl rfl hcl ha _ _ ?_ hb hv
        intro w1 hb1
        exact isIn_any vs _ ts ws i _ w1 (hvs.below hb1) (hvw.below hb1) (by omega) hl hlt hlc hwl
    have ec : cword x = .none := by simp [cword, e1, e2, e3, e4, e5, e6, e7, e8]
    rw [ec] at hcn
    cases hcn
end Go.Proofs.YtnpjldffciociaaGreatDoor
namespace Go.Proofs.YtnpjldffciociaaGreatDoor
open Go.RowKit

abbrev wInt' : List UInt8 := [105, 110, 116]
abbrev wText' : List UInt8 := [116, 101, 120, 116]
theorem ret_nb' {k : IntKind} {n m : Int} {a b : Bool} (hn : n = m) (h : a = b) : Ending.returned (.tuple #[.int k n, .bool a]) = .returned (.tuple #[.int k m, .bool b]) := by rw [hn, h]
def letterB (c : UInt8) : Bool := decide (97 ≤ c.toNat) && decide (c.toNat ≤ 122)
def digitB (c : UInt8) : Bool := decide (48 ≤ c.toNat) && decide (c.toNat ≤ 57)
def allText (l : List UInt8) : Bool := l.all textByte
theorem textByte_eq (c : UInt8) : textByte c = (letterB c || digitB c || decide (c.toNat = 95)) := rfl

set_option maxRecDepth 10000 in
set_option maxHeartbeats 400000 in
theorem isLetter_any (c : UInt8) (w : World) : Calls Tryz.prog 123 #[.int .u8 c.toNat] w fun e w' => e = .returned (.bool (letterB c)) ∧ w' = w := by
  go_enter Tryz.func123, Tryz.ntmps123
  go_wp2
  all_goals
    go_ret
    refine ⟨ret_bool ?_, rfl⟩
    simp only [letterB]
    first
      | (rw [Bool.eq_iff_iff]; simp; omega)
      | (symm; simp; omega)

set_option maxRecDepth 10000 in
set_option maxHeartbeats 400000 in
theorem isDigit_any (c : UInt8) (w : World) : Calls Tryz.prog 334 #[.int .u8 c.toNat] w fun e w' => e = .returned (.bool (digitB c)) ∧ w' = w := by
  go_enter Tryz.func334, Tryz.ntmps334
  go_wp2
  all_goals
    go_ret
    refine ⟨ret_bool ?_, rfl⟩
    simp only [digitB]
    first
      | (rw [Bool.eq_iff_iff]; simp; omega)
      | (symm; simp; omega)

set_option maxRecDepth 10000 in
set_option maxHeartbeats 400000 in
theorem isTextByte_any (c : UInt8) (w : World) : Calls Tryz.prog 336 #[.int .u8 c.toNat] w fun e w' => e = .returned (.bool (textByte c)) ∧ w' = w := by
  have h1 := fun w => isLetter_any c w
  have h2 := fun w => isDigit_any c w
  rw [textByte_eq]
  cases hl : letterB c <;> cases hd : digitB c <;> rw [hl] at h1 <;> rw [hd] at h2
  all_goals
    clear hl hd
    go_enter Tryz.func336, Tryz.ntmps336
    go_wp2_with (first
      | (go_at_call 123; refine (h1 _).mono ?_; rintro e w' ⟨rfl, hw⟩; obtain rfl := hw.symm)
      | (go_at_call 334; refine (h2 _).mono ?_; rintro e w' ⟨rfl, hw⟩; obtain rfl := hw.symm))
    go_ret
    refine ⟨ret_bool ?_, rfl⟩
    first
      | rfl
      | (rw [Bool.eq_iff_iff]; simp; omega)

set_option maxRecDepth 10000 in
set_option maxHeartbeats 1000000 in
theorem allBytes_letter (s : ByteArray) (w : World) (hs : s.size ≤ maxLen) :
    Calls Tryz.prog 122 #[.string s, .func (.func 123) #[] #[]] w fun e w' => e = .returned (.bool (allBetween 97 122 s.data.toList)) ∧ w' = w := by
  unfold maxLen at hs
  go_enter Tryz.func122, Tryz.ntmps122
  go_wp2
  go_loop [8] (fun i => ∃ k : Nat, k ≤ s.size ∧ i = .int .i64 k ∧ (s.data.toList.take k).all letterB = true) (fun i => s.size - (intOf i).toNat)
  case atStart => exact ⟨0, Nat.zero_le _, rfl, rfl⟩
  case round =>
    obtain ⟨k, hk, rfl, hall⟩ := hrel
    have HA : Hid _ := hall
    clear hall
    by_cases hlt : k < s.size
    · have hf := isLetter_any s[k] w
      cases hp : letterB s[k]
      · have HP : Hid _ := hp
        rw [hp] at hf
        clear hp
        go_wp2_with (go_at_call 123; refine hf.mono ?_; rintro e w' ⟨rfl, hw⟩; obtain rfl := hw.symm)
        go_ret
        refine ⟨ret_bool ?_, rfl⟩
        symm
        show s.data.toList.all letterB = false
        rw [List.all_eq_false]
        exact ⟨s[k], List.mem_iff_getElem.2 ⟨k, by simpa using hlt, rfl⟩, by rw [HP.out]; simp⟩
      · have HS : Hid ((s.data.toList.take (k + 1)).all letterB = true) := Hid.mk (by rw [take_snoc s k hlt, List.all_append, HA.out]; simp [hp])
        rw [hp] at hf
        clear hp
        go_wp2_with (go_at_call 123; refine hf.mono ?_; rintro e w' ⟨rfl, hw⟩; obtain rfl := hw.symm)
        go_round
        case rel => exact ⟨k + 1, by omega, by go_num, HS.out⟩
        case measure => simp [intOf]; omega
    · go_wp2
      go_ret
      refine ⟨ret_bool ?_, rfl⟩
      show true = s.data.toList.all letterB
      rw [← HA.out, List.take_of_length_le (by simp; omega)]

set_option maxRecDepth 10000 in
set_option maxHeartbeats 1000000 in
theorem allBytes_digit (s : ByteArray) (w : World) (hs : s.size ≤ maxLen) :
    Calls Tryz.prog 122 #[.string s, .func (.func 334) #[] #[]] w fun e w' => e = .returned (.bool (allBetween 48 57 s.data.toList)) ∧ w' = w := by
  unfold maxLen at hs
  go_enter Tryz.func122, Tryz.ntmps122
  go_wp2
  go_loop [8] (fun i => ∃ k : Nat, k ≤ s.size ∧ i = .int .i64 k ∧ (s.data.toList.take k).all digitB = true) (fun i => s.size - (intOf i).toNat)
  case atStart => exact ⟨0, Nat.zero_le _, rfl, rfl⟩
  case round =>
    obtain ⟨k, hk, rfl, hall⟩ := hrel
    have HA : Hid _ := hall
    clear hall
    by_cases hlt : k < s.size
    · have hf := isDigit_any s[k] w
      cases hp : digitB s[k]
      · have HP : Hid _ := hp
        rw [hp] at hf
        clear hp
        go_wp2_with (go_at_call 334; refine hf.mono ?_; rintro e w' ⟨rfl, hw⟩; obtain rfl := hw.symm)
        go_ret
        refine ⟨ret_bool ?_, rfl⟩
        symm
        show s.data.toList.all digitB = false
        rw [List.all_eq_false]
        exact ⟨s[k], List.mem_iff_getElem.2 ⟨k, by simpa using hlt, rfl⟩, by rw [HP.out]; simp⟩
      · have HS : Hid ((s.data.toList.take (k + 1)).all digitB = true) := Hid.mk (by rw [take_snoc s k hlt, List.all_append, HA.out]; simp [hp])
        rw [hp] at hf
        clear hp
        go_wp2_with (go_at_call 334; refine hf.mono ?_; rintro e w' ⟨rfl, hw⟩; obtain rfl := hw.symm)
        go_round
        case rel => exact ⟨k + 1, by omega, by go_num, HS.out⟩
        case measure => simp [intOf]; omega
    · go_wp2
      go_ret
      refine ⟨ret_bool ?_, rfl⟩
      show true = s.data.toList.all digitB
      rw [← HA.out, List.take_of_length_le (by simp; omega)]

set_option maxRecDepth 10000 in
set_option maxHeartbeats 1000000 in
theorem allBytes_text (s : ByteArray) (w : World) (hs : s.size ≤ maxLen) :
    Calls Tryz.prog 122 #[.string s, .func (.func 336) #[] #[]] w fun e w' => e = .returned (.bool (allText s.data.toList)) ∧ w' = w := by
  unfold maxLen at hs
  go_enter Tryz.func122, Tryz.ntmps122
  go_wp2
  go_loop [8] (fun i => ∃ k : Nat, k ≤ s.size ∧ i = .int .i64 k ∧ (s.data.toList.take k).all textByte = true) (fun i => s.size - (intOf i).toNat)
  case atStart => exact ⟨0, Nat.zero_le _, rfl, rfl⟩
  case round =>
    obtain ⟨k, hk, rfl, hall⟩ := hrel
    have HA : Hid _ := hall
    clear hall
    by_cases hlt : k < s.size
    · have hf := isTextByte_any s[k] w
      cases hp : textByte s[k]
      · have HP : Hid _ := hp
        rw [hp] at hf
        clear hp
        go_wp2_with (go_at_call 336; refine hf.mono ?_; rintro e w' ⟨rfl, hw⟩; obtain rfl := hw.symm)
        go_ret
        refine ⟨ret_bool ?_, rfl⟩
        symm
        show s.data.toList.all textByte = false
        rw [List.all_eq_false]
        exact ⟨s[k], List.mem_iff_getElem.2 ⟨k, by simpa using hlt, rfl⟩, by rw [HP.out]; simp⟩
      · have HS : Hid ((s.data.toList.take (k + 1)).all textByte = true) := Hid.mk (by rw [take_snoc s k hlt, List.all_append, HA.out]; simp [hp])
        rw [hp] at hf
        clear hp
        go_wp2_with (go_at_call 336; refine hf.mono ?_; rintro e w' ⟨rfl, hw⟩; obtain rfl := hw.symm)
        go_round
        case rel => exact ⟨k + 1, by omega, by go_num, HS.out⟩
        case measure => simp [intOf]; omega
    · go_wp2
      go_ret
      refine ⟨ret_bool ?_, rfl⟩
      show true = s.data.toList.all textByte
      rw [← HA.out, List.take_of_length_le (by simp; omega)]

theorem all_letter (l : List UInt8) : l.all letterB = allBetween 97 122 l := rfl
theorem all_digit (l : List UInt8) : l.all digitB = allBetween 48 57 l := rfl

set_option maxRecDepth 10000 in
set_option maxHeartbeats 400000 in
theorem sIsName_any (s : ByteArray) (w : World) (hs : s.size ≤ maxLen) :
    Calls Tryz.prog 73 #[.string s] w fun e w' => e = .returned (.bool (isNameL s.data.toList)) ∧ w' = w := by
  have hb := allBytes_letter s w hs
  cases hc : allBetween 97 122 s.data.toList
  all_goals
    rw [hc] at hb
    go_enter Tryz.func73, Tryz.ntmps73
    go_wp2_with (go_at_call 122; refine hb.mono ?_; rintro e w' ⟨rfl, hw⟩; obtain rfl := hw.symm)
    all_goals
      go_ret
      refine ⟨ret_bool ?_, rfl⟩
      simp [isNameL, hc]
      try (first | omega | (rw [Bool.eq_iff_iff]; simp; omega))

/-- A type as the program has it: 1 int, 2 text. -/
def tnum (b : Bool) : Int := if b then 2 else 1
abbrev tcode (b : Bool) : Value := .int .i64 (tnum b)

set_option maxRecDepth 10000 in
set_option maxHeartbeats 400000 in
theorem readType_no (x : List UInt8) (w : World) (h1 : (x == wInt') = false) (h2 : (x == wText') = false) :
    Calls Tryz.prog 194 #[.string (bs x)] w fun e w' => e = .returned (.tuple #[.int .i64 0, .bool false]) ∧ w' = w := by
  have hbs := bs_toList2
  go_enter Tryz.func194, Tryz.ntmps194
  go_wp2
  go_ret2
  exact ⟨rfl, rfl⟩
set_option maxRecDepth 10000 in
set_option maxHeartbeats 400000 in
theorem readType_yes (b : Bool) (w : World) :
    Calls Tryz.prog 194 #[.string (bs (if b then wText' else wInt'))] w fun e w' => e = .returned (.tuple #[tcode b, .bool true]) ∧ w' = w := by
  have hbs := bs_toList2
  cases b
  all_goals
    go_enter Tryz.func194, Tryz.ntmps194
    go_wp2
    go_ret2
    exact ⟨rfl, rfl⟩

/-- COL, as the program reads it. -/
def colRaw (l : List UInt8) : Option Nat := colOf l 9

set_option maxRecDepth 10000 in
set_option maxHeartbeats 400000 in
theorem readColumn_any (s : ByteArray) (w : World) (_hs : s.size ≤ maxLen) :
    Calls Tryz.prog 251 #[.string s] w fun e w' => e = .returned (.tuple #[.int .i64 (((colRaw s.data.toList).getD 0 : Nat) : Int), .bool (colRaw s.data.toList).isSome]) ∧ w' = w := by
  by_cases h1 : s.size = 1
  · obtain ⟨c, hc⟩ : ∃ c, s.data.toList = [c] := by
      have : s.data.toList.length = 1 := by simpa using h1
      match h : s.data.toList, this with
      | [c], _ => exact ⟨c, rfl⟩
    have hg : s[0]'(by omega) = c := by
      have : s.data.toList[0]'(by rw [hc]; simp) = c := by simp [hc]
      exact this
    rw [hc]
    clear hc
    go_enter Tryz.func251, Tryz.ntmps251
    go_wp2
    all_goals
      go_ret2
      refine ⟨?_, rfl⟩
      simp only [colRaw, colOf]
      split
      all_goals first
        | omega
        | rfl
        | (exact ret_nb' (by simp; omega) rfl)
  · have hn : colRaw s.data.toList = none := by
      unfold colRaw colOf
      split
      · rename_i c h; exact absurd (by have := congrArg List.length h; simpa using this) h1
      · rfl
    rw [hn]
    clear hn
    go_enter Tryz.func251, Tryz.ntmps251
    go_wp2
    go_ret2
    exact ⟨rfl, rfl⟩
end Go.Proofs.YtnpjldffciociaaGreatDoor
