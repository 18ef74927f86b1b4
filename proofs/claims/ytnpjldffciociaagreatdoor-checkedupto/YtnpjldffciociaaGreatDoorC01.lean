import Derived.Test.YtnpjldffciociaaGreatDoorB01
import Derived.Test.YtnpjldffciociaaGreatDoorB06
namespace Go.Proofs.YtnpjldffciociaaGreatDoor

abbrev wAll : List UInt8 := [97, 108, 108]
abbrev wKeep : List UInt8 := [107, 101, 101, 112]
abbrev wPick : List UInt8 := [112, 105, 99, 107]
abbrev wCount : List UInt8 := [99, 111, 117, 110, 116]
abbrev wSum : List UInt8 := [115, 117, 109]
abbrev wJoin : List UInt8 := [106, 111, 105, 110]
abbrev wBoth : List UInt8 := [98, 111, 116, 104]

abbrev VWord := Bool × Bool × Bool
abbrev VWord.all : VWord := (false, false, false)
abbrev VWord.keep : VWord := (false, false, true)
abbrev VWord.pick : VWord := (false, true, false)
abbrev VWord.count : VWord := (false, true, true)
abbrev VWord.sum : VWord := (true, false, false)
abbrev VWord.join : VWord := (true, false, true)
abbrev VWord.both : VWord := (true, true, false)
abbrev VWord.none : VWord := (true, true, true)
def vword (x : List UInt8) : VWord :=
  if x = wAll then .all else if x = wKeep then .keep else if x = wPick then .pick else if x = wCount then .count else if x = wSum then .sum else if x = wJoin then .join else if x = wBoth then .both else .none

/-- How many words stand behind the first one ahead of the views within, and how many views these are. -/
def headR (x : List UInt8) (r : List (List UInt8)) : Option (Nat × Nat) :=
  match vword x with
  | (false, false, false) => some (1, 0)
  | (false, false, true) => match condLen r with
    | none => none
    | some n => some (n, 1)
  | (false, true, false) => some (1, 1)
  | (false, true, true) => some (1, 1)
  | (true, false, false) => some (2, 1)
  | (true, false, true) => some (2, 2)
  | (true, true, false) => some (0, 2)
  | (true, true, true) => none

def chk (len n : Nat) : Option Nat := if n ≤ len then some n else none

/-- How many words the view has with which these begin, by so many steps at most. -/
def viewLenF : Nat → List (List UInt8) → Option Nat
  | 0, _ => none
  | _ + 1, [] => none
  | n + 1, x :: r =>
    match headR x r with
    | none => none
    | some (h, k) =>
      if k = 0 then chk (r.length + 1) (h + 1)
      else match viewLenF n (r.drop h) with
        | none => none
        | some m =>
          if k = 1 then chk (r.length + 1) (h + 1 + m)
          else match viewLenF n (r.drop (h + m)) with
            | none => none
            | some m2 => chk (r.length + 1) (h + 1 + m + m2)
/-- How many words the view has with which these begin. -/
def viewLen (l : List (List UInt8)) : Option Nat := viewLenF (l.length + 1) l
theorem viewLenF_le : ∀ (k : Nat) (l : List (List UInt8)), l.length < k → ∀ k', l.length < k' → viewLenF k l = viewLenF k' l := by
  intro k
  induction k with
  | zero => intro l h; omega
  | succ k ih =>
    intro l h k' h'
    match k', h' with
    | 0, h' => omega
    | k' + 1, h' =>
      match l, h, h' with
      | [], _, _ => rfl
      | x :: r, h, h' =>
        simp at h h'
        have e2 : ∀ a, viewLenF k (r.drop a) = viewLenF k' (r.drop a) := fun a => ih (r.drop a) (by simp; omega) k' (by simp; omega)
        simp only [viewLenF, e2]
theorem viewLen_nil : viewLen [] = none := rfl
theorem viewLen_cons (x : List UInt8) (r : List (List UInt8)) : viewLen (x :: r) =
    match headR x r with
    | none => none
    | some (h, k) =>
      if k = 0 then chk (r.length + 1) (h + 1)
      else match viewLen (r.drop h) with
        | none => none
        | some m =>
          if k = 1 then chk (r.length + 1) (h + 1 + m)
          else match viewLen (r.drop (h + m)) with
            | none => none
            | some m2 => chk (r.length + 1) (h + 1 + m + m2) := by
  have e2 : ∀ a, viewLenF (r.length + 1) (r.drop a) = viewLen (r.drop a) := fun a => viewLenF_le _ _ (by simp; omega) _ (by simp)
  show viewLenF (r.length + 1 + 1) (x :: r) = _
  simp only [viewLenF, e2]

theorem chk_some {len n m : Nat} (h : chk len n = some m) : m = n ∧ n ≤ len := by
  unfold chk at h
  split at h
  · simp at h; omega
  · cases h

theorem viewLen_le {l : List (List UInt8)} {n : Nat} (h : viewLen l = some n) : n ≤ l.length ∧ 1 ≤ n := by
  match l with
  | [] => simp [viewLen_nil] at h
  | x :: r =>
    rw [viewLen_cons] at h
    split at h
    · cases h
    · split at h
      · have := chk_some h; simp; omega
      · split at h
        · cases h
        · split at h
          · have := chk_some h; simp; omega
          · split at h
            · cases h
            · have := chk_some h; simp; omega
end Go.Proofs.YtnpjldffciociaaGreatDoor
namespace Go.Proofs.YtnpjldffciociaaGreatDoor
open Go.RowKit
set_option maxRecDepth 10000 in
set_option maxHeartbeats 1000000 in
theorem hd_all (v : Value) (i : Nat) (w : World) (_hi : i ≤ 1000) (hw : Calls Tryz.prog 161 #[v, .int .i64 i] w fun e w' => e = .returned (.string (bs wAll)) ∧ w' = w) :
    Calls Tryz.prog 154 #[v, .int .i64 i] w fun e w' => e = .returned (.tuple #[.int .i64 2, .int .i64 0]) ∧ w' = w := by
  have hbs := bs_toList2
  go_enter Tryz.func154, Tryz.ntmps154
  go_wp2_with (go_at_call 161; with_reducible refine hw.mono ?_; rintro e w' ⟨rfl, rfl⟩)
  go_ret2
  exact ⟨rfl, rfl⟩
set_option maxRecDepth 10000 in
set_option maxHeartbeats 1000000 in
theorem hd_pick (v : Value) (i : Nat) (w : World) (_hi : i ≤ 1000) (hw : Calls Tryz.prog 161 #[v, .int .i64 i] w fun e w' => e = .returned (.string (bs wPick)) ∧ w' = w) :
    Calls Tryz.prog 154 #[v, .int .i64 i] w fun e w' => e = .returned (.tuple #[.int .i64 2, .int .i64 1]) ∧ w' = w := by
  have hbs := bs_toList2
  go_enter Tryz.func154, Tryz.ntmps154
  go_wp2_with (go_at_call 161; with_reducible refine hw.mono ?_; rintro e w' ⟨rfl, rfl⟩)
  go_ret2
  exact ⟨rfl, rfl⟩
set_option maxRecDepth 10000 in
set_option maxHeartbeats 1000000 in
theorem hd_count (v : Value) (i : Nat) (w : World) (_hi : i ≤ 1000) (hw : Calls Tryz.prog 161 #[v, .int .i64 i] w fun e w' => e = .returned (.string (bs wCount)) ∧ w' = w) :
    Calls Tryz.prog 154 #[v, .int .i64 i] w fun e w' => e = .returned (.tuple #[.int .i64 2, .int .i64 1]) ∧ w' = w := by
  have hbs := bs_toList2
  go_enter Tryz.func154, Tryz.ntmps154
  go_wp2_with (go_at_call 161; with_reducible refine hw.mono ?_; rintro e w' ⟨rfl, rfl⟩)
  go_ret2
  exact ⟨rfl, rfl⟩
set_option maxRecDepth 10000 in
set_option maxHeartbeats 1000000 in
theorem hd_sum (v : Value) (i : Nat) (w : World) (_hi : i ≤ 1000) (hw : Calls Tryz.prog 161 #[v, .int .i64 i] w fun e w' => e = .returned (.string (bs wSum)) ∧ w' = w) :
    Calls Tryz.prog 154 #[v, .int .i64 i] w fun e w' => e = .returned (.tuple #[.int .i64 3, .int .i64 1]) ∧ w' = w := by
  have hbs := bs_toList2
  go_enter Tryz.func154, Tryz.ntmps154
  go_wp2_with (go_at_call 161; with_reducible refine hw.mono ?_; rintro e w' ⟨rfl, rfl⟩)
  go_ret2
  exact ⟨rfl, rfl⟩
set_option maxRecDepth 10000 in
set_option maxHeartbeats 1000000 in
theorem hd_join (v : Value) (i : Nat) (w : World) (_hi : i ≤ 1000) (hw : Calls Tryz.prog 161 #[v, .int .i64 i] w fun e w' => e = .returned (.string (bs wJoin)) ∧ w' = w) :
    Calls Tryz.prog 154 #[v, .int .i64 i] w fun e w' => e = .returned (.tuple #[.int .i64 3, .int .i64 2]) ∧ w' = w := by
  have hbs := bs_toList2
  go_enter Tryz.func154, Tryz.ntmps154
  go_wp2_with (go_at_call 161; with_reducible refine hw.mono ?_; rintro e w' ⟨rfl, rfl⟩)
  go_ret2
  exact ⟨rfl, rfl⟩
set_option maxRecDepth 10000 in
set_option maxHeartbeats 1000000 in
theorem hd_both (v : Value) (i : Nat) (w : World) (_hi : i ≤ 1000) (hw : Calls Tryz.prog 161 #[v, .int .i64 i] w fun e w' => e = .returned (.string (bs wBoth)) ∧ w' = w) :
    Calls Tryz.prog 154 #[v, .int .i64 i] w fun e w' => e = .returned (.tuple #[.int .i64 1, .int .i64 2]) ∧ w' = w := by
  have hbs := bs_toList2
  go_enter Tryz.func154, Tryz.ntmps154
  go_wp2_with (go_at_call 161; with_reducible refine hw.mono ?_; rintro e w' ⟨rfl, rfl⟩)
  go_ret2
  exact ⟨rfl, rfl⟩
set_option maxRecDepth 10000 in
set_option maxHeartbeats 1000000 in
theorem hd_keep_no (v : Value) (i : Nat) (w : World) (hi : i ≤ 1000) (hw : Calls Tryz.prog 161 #[v, .int .i64 i] w fun e w' => e = .returned (.string (bs wKeep)) ∧ w' = w) (hc : Calls Tryz.prog 205 #[v, .int .i64 ((i : Int) + 1)] w fun e w' => e = .returned (.int .i64 (-1)) ∧ w' = w) :
    Calls Tryz.prog 154 #[v, .int .i64 i] w fun e w' => e = .returned (.tuple #[.int .i64 (-1), .int .i64 0]) ∧ w' = w := by
  have hbs := bs_toList2
  go_enter Tryz.func154, Tryz.ntmps154
  go_wp2_with (first | (go_at_call 161; with_reducible refine hw.mono ?_; rintro e w' ⟨rfl, rfl⟩) | (go_at_call 205; with_reducible refine hc.mono ?_; rintro e w' ⟨rfl, rfl⟩))
  go_ret2
  exact ⟨rfl, rfl⟩
set_option maxRecDepth 10000 in
set_option maxHeartbeats 1000000 in
theorem hd_keep (v : Value) (i : Nat) (w : World) (hi : i ≤ 1000) (n : Nat) (hn : n ≤ 8388608) (hw : Calls Tryz.prog 161 #[v, .int .i64 i] w fun e w' => e = .returned (.string (bs wKeep)) ∧ w' = w) (hc : Calls Tryz.prog 205 #[v, .int .i64 ((i : Int) + 1)] w fun e w' => e = .returned (.int .i64 (n : Int)) ∧ w' = w) :
    Calls Tryz.prog 154 #[v, .int .i64 i] w fun e w' => e = .returned (.tuple #[.int .i64 ((n : Int) + 1), .int .i64 1]) ∧ w' = w := by
  have hbs := bs_toList2
  go_enter Tryz.func154, Tryz.ntmps154
  go_wp2_with (first | (go_at_call 161; with_reducible refine hw.mono ?_; rintro e w' ⟨rfl, rfl⟩) | (go_at_call 205; with_reducible refine hc.mono ?_; rintro e w' ⟨rfl, rfl⟩))
  go_ret2
  exact ⟨rfl, rfl⟩
set_option maxRecDepth 10000 in
set_option maxHeartbeats 1000000 in
theorem hd_none (v : Value) (i : Nat) (w : World) (_hi : i ≤ 1000) (x : List UInt8) (n0 : (x == wAll) = false) (n1 : (x == wKeep) = false) (n2 : (x == wPick) = false) (n3 : (x == wCount) = false) (n4 : (x == wSum) = false) (n5 : (x == wJoin) = false) (n6 : (x == wBoth) = false) (hw : Calls Tryz.prog 161 #[v, .int .i64 i] w fun e w' => e = .returned (.string (bs x)) ∧ w' = w) :
    Calls Tryz.prog 154 #[v, .int .i64 i] w fun e w' => e = .returned (.tuple #[.int .i64 (-1), .int .i64 0]) ∧ w' = w := by
  have hbs := bs_toList2
  go_enter Tryz.func154, Tryz.ntmps154
  go_wp2_with (go_at_call 161; with_reducible refine hw.mono ?_; rintro e w' ⟨rfl, rfl⟩)
  go_ret2
  exact ⟨rfl, rfl⟩

/-- What 'heads' answers. -/
def headsI (l : List (List UInt8)) : Int × Int :=
  match l with
  | [] => (-1, 0)
  | x :: r => match headR x r with
    | none => (-1, 0)
    | some (h, k) => ((h : Int) + 1, (k : Int))

set_option maxRecDepth 10000 in
theorem heads_any (ws : List (List UInt8)) (v : Value) (i : Nat) (w : World) (hl : ws.length ≤ 60) (hi : i ≤ 1000) (hv : Reads w v (ws.map fun l => .string (bs l))) :
    Calls Tryz.prog 154 #[v, .int .i64 i] w fun e w' => e = .returned (.tuple #[.int .i64 (headsI (ws.drop i)).1, .int .i64 (headsI (ws.drop i)).2]) ∧ w' = w := by
  have hw := word_any v ws i w hv (by omega)
  rcases wordAt_drop ws i with ⟨x, r, h1, h2, h3, h4⟩ | ⟨h1, h2, h3⟩
  case inr =>
    rw [h2] at hw
    rw [h1]
    exact hd_none v i w hi [] rfl rfl rfl rfl rfl rfl rfl hw
  rw [h2] at hw
  rw [h1]
  simp only [headsI, headR]
  by_cases e1 : x = wAll
  · subst e1; exact hd_all v i w hi hw
  by_cases e2 : x = wKeep
  · subst e2
    have hc := condLen_any ws (by omega) (ws.length + 1) v (i + 1) w (by omega) (by omega) hv
    rw [h3] at hc
    have ev : vword wKeep = .keep := by simp [vword]
    simp only [ev]
    cases hn : condLen r with
    | none => rw [hn] at hc; exact hd_keep_no v i w hi hw (by simpa [idxOf] using hc)
    | some n =>
      rw [hn] at hc
      have hrl : r.length ≤ 60 := by rw [← h3]; simp; omega
      have := condLen_le _ r (Nat.le_refl _) n hn
      exact hd_keep v i w hi n (by omega) hw (by simpa [idxOf] using hc)
  by_cases e3 : x = wPick
  · subst e3; exact hd_pick v i w hi hw
  by_cases e4 : x = wCount
  · subst e4; exact hd_count v i w hi hw
  by_cases e5 : x = wSum
  · subst e5; exact hd_sum v i w hi hw
  by_cases e6 : x = wJoin
  · subst e6; exact hd_join v i w hi hw
  by_cases e7 : x = wBoth
  · subst e7; exact hd_both v i w hi hw
  have ev : vword x = .none := by simp [vword, e1, e2, e3, e4, e5, e6, e7]
  simp only [ev]
  exact hd_none v i w hi x (by simp [e1]) (by simp [e2]) (by simp [e3]) (by simp [e4]) (by simp [e5]) (by simp [e6]) (by simp [e7]) hw
end Go.Proofs.YtnpjldffciociaaGreatDoor
