import Derived.Test.YtnpjldffciociaaGreatDoorC03
import Derived.Test.YtnpjldffciociaaGreatDoorC06
namespace Go.Proofs.YtnpjldffciociaaGreatDoor
open Go.RowKit

set_option maxRecDepth 10000 in
set_option maxHeartbeats 1000000 in
theorem ts_none (w : World) (vs vw : Value) (i : Nat) (_hi : i ≤ 1000) (hv : Calls Tryz.prog 106 #[vw, .int .i64 i] w fun e w' => e = .returned (.int .i64 (-1)) ∧ w' = w) :
    Calls Tryz.prog 107 #[vs, vw, .int .i64 i] w fun e w' => e = .returned (.tuple #[.slice none 0 0, .bool false]) ∧ w' = w := by
  go_enter Tryz.func107, Tryz.ntmps107
  go_wp2_with (go_at_call 106; with_reducible refine hv.mono ?_; rintro e w' ⟨rfl, hw⟩; obtain rfl := hw.symm)
  go_ret2
  exact ⟨rfl, rfl⟩
set_option maxRecDepth 10000 in
set_option maxHeartbeats 1000000 in
theorem ts_0 (w : World) (vs vw : Value) (i : Nat) (_hi : i ≤ 1000) (l h n : Nat) (_hh0 : h ≤ 400) (P2 : World → Value → Prop) (okt : Bool) (hP2 : okt = true → ∀ w v, P2 w v → ∃ a c, v = .slice a n c) (hn : n ≤ 4194304) (hv : Calls Tryz.prog 106 #[vw, .int .i64 i] w fun e w' => e = .returned (.int .i64 (l : Int)) ∧ w' = w) (hh : Calls Tryz.prog 154 #[vw, .int .i64 i] w fun e w' => e = .returned (.tuple #[.int .i64 (h : Int), .int .i64 0]) ∧ w' = w) (hty : Calls Tryz.prog 155 #[vs, vw, .int .i64 i, .slice none 0 0, .slice none 0 0] w fun e w' => ∃ v, e = .returned (.tuple #[v, .bool okt]) ∧ P2 w' v ∧ Below w.heap.size w w') :
    Calls Tryz.prog 107 #[vs, vw, .int .i64 i] w fun e w' => (∃ v, e = .returned (.tuple #[v, .bool (okt && decide (n ≤ 9))]) ∧ P2 w' v) ∧ Below w.heap.size w w' := by
  cases okt
  case false =>
    go_enter Tryz.func107, Tryz.ntmps107
    go_wp2_with (first | (go_at_call 106; with_reducible refine hv.mono ?_; rintro e w' ⟨rfl, hw⟩; obtain rfl := hw.symm) | (go_at_call 154; with_reducible refine hh.mono ?_; rintro e w' ⟨rfl, hw⟩; obtain rfl := hw.symm) | (go_at_call 155; refine (hty).mono ?_; rintro e w4 ⟨v4, rfl, hp2, hb4⟩))
    all_goals
      go_ret2
      exact ⟨⟨_, by simp; try omega, hp2⟩, hb4⟩
  case true =>
    have hP2' : True → ∀ w v, P2 w v → ∃ a c, v = .slice a n c := fun _ => hP2 rfl
    clear hP2
    go_enter Tryz.func107, Tryz.ntmps107
    go_wp2_with (first | (go_at_call 106; with_reducible refine hv.mono ?_; rintro e w' ⟨rfl, hw⟩; obtain rfl := hw.symm) | (go_at_call 154; with_reducible refine hh.mono ?_; rintro e w' ⟨rfl, hw⟩; obtain rfl := hw.symm) | (go_at_call 155; refine (hty).mono ?_; rintro e w4 ⟨v4, rfl, hp2, hb4⟩; obtain ⟨a4, c4, rfl⟩ := hP2' trivial _ _ hp2))
    all_goals
      go_ret2
      exact ⟨⟨_, by simp; try omega, hp2⟩, hb4⟩
set_option maxRecDepth 10000 in
set_option maxHeartbeats 1000000 in
theorem ts_1_no (w : World) (vs vw : Value) (i : Nat) (hi : i ≤ 1000) (l h : Nat) (hh0 : h ≤ 400) (P1 : World → Value → Prop) (hv : Calls Tryz.prog 106 #[vw, .int .i64 i] w fun e w' => e = .returned (.int .i64 (l : Int)) ∧ w' = w) (hh : Calls Tryz.prog 154 #[vw, .int .i64 i] w fun e w' => e = .returned (.tuple #[.int .i64 (h : Int), .int .i64 1]) ∧ w' = w) (h1 : Calls Tryz.prog 107 #[vs, vw, .int .i64 ((i : Int) + h)] w fun e w' => ∃ v, e = .returned (.tuple #[v, .bool false]) ∧ P1 w' v ∧ Below w.heap.size w w') :
    Calls Tryz.prog 107 #[vs, vw, .int .i64 i] w fun e w' => e = .returned (.tuple #[.slice none 0 0, .bool false]) ∧ Below w.heap.size w w' := by
  go_enter Tryz.func107, Tryz.ntmps107
  go_wp2_with (first | (go_at_call 106; with_reducible refine hv.mono ?_; rintro e w' ⟨rfl, hw⟩; obtain rfl := hw.symm) | (go_at_call 154; with_reducible refine hh.mono ?_; rintro e w' ⟨rfl, hw⟩; obtain rfl := hw.symm) | (go_at_call 107; with_reducible refine h1.mono ?_; rintro e w1 ⟨v1, rfl, hp1, hb1⟩))
  go_ret2
  exact ⟨rfl, hb1⟩
set_option maxRecDepth 10000 in
set_option maxHeartbeats 1000000 in
theorem ts_1 (w : World) (vs vw : Value) (i : Nat) (hi : i ≤ 1000) (l h n : Nat) (hh0 : h ≤ 400) (P2 : World → Value → Prop) (okt : Bool) (hP2 : okt = true → ∀ w v, P2 w v → ∃ a c, v = .slice a n c) (hn : n ≤ 4194304) (P1 : World → Value → Prop) (hv : Calls Tryz.prog 106 #[vw, .int .i64 i] w fun e w' => e = .returned (.int .i64 (l : Int)) ∧ w' = w) (hh : Calls Tryz.prog 154 #[vw, .int .i64 i] w fun e w' => e = .returned (.tuple #[.int .i64 (h : Int), .int .i64 1]) ∧ w' = w) (h1 : Calls Tryz.prog 107 #[vs, vw, .int .i64 ((i : Int) + h)] w fun e w' => ∃ v, e = .returned (.tuple #[v, .bool true]) ∧ P1 w' v ∧ Below w.heap.size w w') (hty : ∀ w1 v1, P1 w1 v1 → Below w.heap.size w w1 → Calls Tryz.prog 155 #[vs, vw, .int .i64 i, v1, .slice none 0 0] w1 fun e w' => ∃ v, e = .returned (.tuple #[v, .bool okt]) ∧ P2 w' v ∧ Below w1.heap.size w1 w') :
    Calls Tryz.prog 107 #[vs, vw, .int .i64 i] w fun e w' => (∃ v, e = .returned (.tuple #[v, .bool (okt && decide (n ≤ 9))]) ∧ P2 w' v) ∧ Below w.heap.size w w' := by
  cases okt
  case false =>
    go_enter Tryz.func107, Tryz.ntmps107
    go_wp2_with (first | (go_at_call 106; with_reducible refine hv.mono ?_; rintro e w' ⟨rfl, hw⟩; obtain rfl := hw.symm) | (go_at_call 154; with_reducible refine hh.mono ?_; rintro e w' ⟨rfl, hw⟩; obtain rfl := hw.symm) | (go_at_call 107; with_reducible refine h1.mono ?_; rintro e w1 ⟨v1, rfl, hp1, hb1⟩) | (go_at_call 155; refine (hty _ _ hp1 hb1).mono ?_; rintro e w4 ⟨v4, rfl, hp2, hb4⟩))
    all_goals
      go_ret2
      exact ⟨⟨_, by simp; try omega, hp2⟩, hb1.trans (hb4.mono hb1.size)⟩
  case true =>
    have hP2' : True → ∀ w v, P2 w v → ∃ a c, v = .slice a n c := fun _ => hP2 rfl
    clear hP2
    go_enter Tryz.func107, Tryz.ntmps107
    go_wp2_with (first | (go_at_call 106; with_reducible refine hv.mono ?_; rintro e w' ⟨rfl, hw⟩; obtain rfl := hw.symm) | (go_at_call 154; with_reducible refine hh.mono ?_; rintro e w' ⟨rfl, hw⟩; obtain rfl := hw.symm) | (go_at_call 107; with_reducible refine h1.mono ?_; rintro e w1 ⟨v1, rfl, hp1, hb1⟩) | (go_at_call 155; refine (hty _ _ hp1 hb1).mono ?_; rintro e w4 ⟨v4, rfl, hp2, hb4⟩; obtain ⟨a4, c4, rfl⟩ := hP2' trivial _ _ hp2))
    all_goals
      go_ret2
      exact ⟨⟨_, by simp; try omega, hp2⟩, hb1.trans (hb4.mono hb1.size)⟩
set_option maxRecDepth 10000 in
set_option maxHeartbeats 1000000 in
theorem ts_2_no (w : World) (vs vw : Value) (i : Nat) (hi : i ≤ 1000) (l h m : Nat) (hh0 : h ≤ 400) (hm : m ≤ 60) (P1 P3 : World → Value → Prop) (ok1 ok2 : Bool) (hno : (ok1 && ok2) = false) (hv : Calls Tryz.prog 106 #[vw, .int .i64 i] w fun e w' => e = .returned (.int .i64 (l : Int)) ∧ w' = w) (hh : Calls Tryz.prog 154 #[vw, .int .i64 i] w fun e w' => e = .returned (.tuple #[.int .i64 (h : Int), .int .i64 2]) ∧ w' = w) (h1 : Calls Tryz.prog 107 #[vs, vw, .int .i64 ((i : Int) + h)] w fun e w' => ∃ v, e = .returned (.tuple #[v, .bool ok1]) ∧ P1 w' v ∧ Below w.heap.size w w') (hv2 : ∀ w1, Below w.heap.size w w1 → Calls Tryz.prog 106 #[vw, .int .i64 ((i : Int) + h)] w1 fun e w' => e = .returned (.int .i64 (m : Int)) ∧ w' = w1) (h2 : ∀ w1, Below w.heap.size w w1 → Calls Tryz.prog 107 #[vs, vw, .int .i64 ((i : Int) + h + m)] w1 fun e w' => ∃ v, e = .returned (.tuple #[v, .bool ok2]) ∧ P3 w' v ∧ Below w1.heap.size w1 w') :
    Calls Tryz.prog 107 #[vs, vw, .int .i64 i] w fun e w' => e = .returned (.tuple #[.slice none 0 0, .bool false]) ∧ Below w.heap.size w w' := by
  cases ok1 <;> cases ok2
  case true.true => cases hno
  all_goals
    go_enter Tryz.func107, Tryz.ntmps107
    go_wp2_with (first | (go_at_call 106; with_reducible refine hv.mono ?_; rintro e w' ⟨rfl, hw⟩; obtain rfl := hw.symm) | (go_at_call 154; with_reducible refine hh.mono ?_; rintro e w' ⟨rfl, hw⟩; obtain rfl := hw.symm) | (go_at_call 107; with_reducible refine h1.mono ?_; rintro e w1 ⟨v1, rfl, hp1, hb1⟩) | (go_at_call 106; with_reducible refine (hv2 _ hb1).mono ?_; rintro e w' ⟨rfl, hw⟩; obtain rfl := hw.symm) | (go_at_call 107; with_reducible refine (h2 _ hb1).mono ?_; rintro e w2 ⟨v2, rfl, hp3, hb2⟩))
    go_ret2
    exact ⟨rfl, hb1.trans (hb2.mono hb1.size)⟩
set_option maxRecDepth 10000 in
set_option maxHeartbeats 1000000 in
theorem ts_2 (w : World) (vs vw : Value) (i : Nat) (hi : i ≤ 1000) (l h n : Nat) (hh0 : h ≤ 400) (P2 : World → Value → Prop) (okt : Bool) (hP2 : okt = true → ∀ w v, P2 w v → ∃ a c, v = .slice a n c) (hn : n ≤ 4194304) (m : Nat) (hm : m ≤ 60) (P1 P3 : World → Value → Prop) (hv : Calls Tryz.prog 106 #[vw, .int .i64 i] w fun e w' => e = .returned (.int .i64 (l : Int)) ∧ w' = w) (hh : Calls Tryz.prog 154 #[vw, .int .i64 i] w fun e w' => e = .returned (.tuple #[.int .i64 (h : Int), .int .i64 2]) ∧ w' = w) (h1 : Calls Tryz.prog 107 #[vs, vw, .int .i64 ((i : Int) + h)] w fun e w' => ∃ v, e = .returned (.tuple #[v, .bool true]) ∧ P1 w' v ∧ Below w.heap.size w w') (hv2 : ∀ w1, Below w.heap.size w w1 → Calls Tryz.prog 106 #[vw, .int .i64 ((i : Int) + h)] w1 fun e w' => e = .returned (.int .i64 (m : Int)) ∧ w' = w1) (h2 : ∀ w1, Below w.heap.size w w1 → Calls Tryz.prog 107 #[vs, vw, .int .i64 ((i : Int) + h + m)] w1 fun e w' => ∃ v, e = .returned (.tuple #[v, .bool true]) ∧ P3 w' v ∧ Below w1.heap.size w1 w') (hty : ∀ w1 v1 w2 v2, P1 w1 v1 → Below w.heap.size w w1 → P3 w2 v2 → Below w1.heap.size w1 w2 → Calls Tryz.prog 155 #[vs, vw, .int .i64 i, v1, v2] w2 fun e w' => ∃ v, e = .returned (.tuple #[v, .bool okt]) ∧ P2 w' v ∧ Below w2.heap.size w2 w') :
    Calls Tryz.prog 107 #[vs, vw, .int .i64 i] w fun e w' => (∃ v, e = .returned (.tuple #[v, .bool (okt && decide (n ≤ 9))]) ∧ P2 w' v) ∧ Below w.heap.size w w' := by
  cases okt
  case false =>
    go_enter Tryz.func107, Tryz.ntmps107
    go_wp2_with (first | (go_at_call 106; with_reducible refine hv.mono ?_; rintro e w' ⟨rfl, hw⟩; obtain rfl := hw.symm) | (go_at_call 154; with_reducible refine hh.mono ?_; rintro e w' ⟨rfl, hw⟩; obtain rfl := hw.symm) | (go_at_call 107; with_reducible refine h1.mono ?_; rintro e w1 ⟨v1, rfl, hp1, hb1⟩) | (go_at_call 106; with_reducible refine (hv2 _ hb1).mono ?_; rintro e w' ⟨rfl, hw⟩; obtain rfl := hw.symm) | (go_at_call 107; with_reducible refine (h2 _ hb1).mono ?_; rintro e w2 ⟨v2, rfl, hp3, hb2⟩) | (go_at_call 155; refine (hty _ _ _ _ hp1 hb1 hp3 hb2).mono ?_; rintro e w4 ⟨v4, rfl, hp2, hb4⟩))
    all_goals
      go_ret2
      exact ⟨⟨_, by simp; try omega, hp2⟩, (hb1.trans (hb2.mono hb1.size)).trans (hb4.mono (Nat.le_trans hb1.size hb2.size))⟩
  case true =>
    have hP2' : True → ∀ w v, P2 w v → ∃ a c, v = .slice a n c := fun _ => hP2 rfl
    clear hP2
    go_enter Tryz.func107, Tryz.ntmps107
    go_wp2_with (first | (go_at_call 106; with_reducible refine hv.mono ?_; rintro e w' ⟨rfl, hw⟩; obtain rfl := hw.symm) | (go_at_call 154; with_reducible refine hh.mono ?_; rintro e w' ⟨rfl, hw⟩; obtain rfl := hw.symm) | (go_at_call 107; with_reducible refine h1.mono ?_; rintro e w1 ⟨v1, rfl, hp1, hb1⟩) | (go_at_call 106; with_reducible refine (hv2 _ hb1).mono ?_; rintro e w' ⟨rfl, hw⟩; obtain rfl := hw.symm) | (go_at_call 107; with_reducible refine (h2 _ hb1).mono ?_; rintro e w2 ⟨v2, rfl, hp3, hb2⟩) | (go_at_call 155; refine (hty _ _ _ _ hp1 hb1 hp3 hb2).mono ?_; rintro e w4 ⟨v4, rfl, hp2, hb4⟩; obtain ⟨a4, c4, rfl⟩ := hP2' trivial _ _ hp2))
    all_goals
      go_ret2
      exact ⟨⟨_, by simp; try omega, hp2⟩, (hb1.trans (hb2.mono hb1.size)).trans (hb4.mono (Nat.le_trans hb1.size hb2.size))⟩
end Go.Proofs.YtnpjldffciociaaGreatDoor
namespace Go.Proofs.YtnpjldffciociaaGreatDoor
open Go.RowKit

def wide (o : Option (List Bool)) : Option (List Bool) :=
  match o with
  | none => none
  | some xs => if xs.length ≤ 9 then some xs else none

/-- The types of the view with which these words begin, by so many steps at most. -/
def typesPF (ts : List (List UInt8 × List Bool)) : Nat → List (List UInt8) → Option (List Bool)
  | 0, _ => none
  | _ + 1, [] => none
  | n + 1, x :: r =>
    match viewLen (x :: r) with
    | none => none
    | some _ =>
      match headR x r with
      | none => none
      | some (h, k) =>
        if k = 0 then wide (typedP ts x r [] [])
        else if k = 1 then
          match typesPF ts n (r.drop h) with
          | none => none
          | some a => wide (typedP ts x r a [])
        else
          match typesPF ts n (r.drop h), typesPF ts n (r.drop (h + (viewLen (r.drop h)).getD 0)) with
          | some a, some b => wide (typedP ts x r a b)
          | _, _ => none
/-- The types of the view with which these words begin. -/
def typesP (ts : List (List UInt8 × List Bool)) (l : List (List UInt8)) : Option (List Bool) := typesPF ts (l.length + 1) l
theorem typesPF_le (ts : List (List UInt8 × List Bool)) : ∀ (k : Nat) (l : List (List UInt8)), l.length < k → ∀ k', l.length < k' → typesPF ts k l = typesPF ts k' l := by
  intro k
  induction k with
  | zero => intro l h; omega
  | succ k ih =>
    intro l h k' h'
    match k', h' with
    | 0, h' => omega
    | k' + 1, h' =>
      match l, h, h' with
      | [], _, _ => rfl
      | x :: r, h, h' =>
        simp at h h'
        have e2 : ∀ a, typesPF ts k (r.drop a) = typesPF ts k' (r.drop a) := fun a => ih (r.drop a) (by simp; omega) k' (by simp; omega)
        simp only [typesPF, e2]
theorem typesP_nil (ts : List (List UInt8 × List Bool)) : typesP ts [] = none := rfl
theorem typesP_cons (ts : List (List UInt8 × List Bool)) (x : List UInt8) (r : List (List UInt8)) : typesP ts (x :: r) =
    match viewLen (x :: r) with
    | none => none
    | some _ =>
      match headR x r with
      | none => none
      | some (h, k) =>
        if k = 0 then wide (typedP ts x r [] [])
        else if k = 1 then
          match typesP ts (r.drop h) with
          | none => none
          | some a => wide (typedP ts x r a [])
        else
          match typesP ts (r.drop h), typesP ts (r.drop (h + (viewLen (r.drop h)).getD 0)) with
          | some a, some b => wide (typedP ts x r a b)
          | _, _ => none := by
  have e2 : ∀ a, typesPF ts (r.length + 1) (r.drop a) = typesP ts (r.drop a) := fun a => typesPF_le ts _ _ (by simp; omega) _ (by simp)
  show typesPF ts (r.length + 1 + 1) (x :: r) = _
  simp only [typesPF, e2]

theorem wide_le {o : Option (List Bool)} {xs : List Bool} (h : wide o = some xs) : xs.length ≤ 9 := by
  unfold wide at h
  split at h
  · cases h
  · split at h
    · cases h; assumption
    · cases h

theorem typesP_le {ts : List (List UInt8 × List Bool)} {l : List (List UInt8)} {xs : List Bool} (h : typesP ts l = some xs) : xs.length ≤ 9 := by
  match l with
  | [] => simp [typesP_nil] at h
  | x :: r =>
    rw [typesP_cons] at h
    split at h
    · cases h
    · split at h
      · cases h
      · split at h
        · exact wide_le h
        · split at h
          · split at h
            · cases h
            · exact wide_le h
          · split at h
            · exact wide_le h
            · cases h

/-- The parts of a view's length. -/
theorem viewLen_parts {x : List UInt8} {r : List (List UInt8)} {l h k : Nat} (hv : viewLen (x :: r) = some l) (hr : headR x r = some (h, k)) :
    h + 1 ≤ r.length + 1 ∧ (k ≠ 0 → ∃ m, viewLen (r.drop h) = some m) := by
  rw [viewLen_cons, hr] at hv
  simp only [] at hv
  split at hv
  · have := chk_some hv; exact ⟨by omega, fun h => absurd (by assumption) h⟩
  · split at hv
    · cases hv
    · rename_i m hm
      split at hv
      · have := chk_some hv; exact ⟨by omega, fun _ => ⟨m, hm⟩⟩
      · split at hv
        · cases hv
        · have := chk_some hv; exact ⟨by omega, fun _ => ⟨m, hm⟩⟩

theorem wide_some {o : Option (List Bool)} : (wide o).isSome = (o.isSome && decide ((o.getD []).length ≤ 9)) := by
  cases o with
  | none => rfl
  | some xs => simp only [wide]; split <;> simp_all

theorem ty_post {w : World} {o : Option (List Bool)} {v : Value} (h : TyAns w o v) : TyAns w (wide o) v := by
  intro xs hx
  cases o with
  | none => cases hx
  | some ys =>
    simp only [wide] at hx
    split at hx
    · cases hx; exact h _ rfl
    · cases hx

theorem typedP_len {ts : List (List UInt8 × List Bool)} {x : List UInt8} {r : List (List UInt8)} {a b out : List Bool} (hlc : ∀ t, (ts.getD t ([], [])).2.length ≤ 5) (hwl : ∀ j, (wordAt r j).length ≤ 1048576)
    (ha : a.length ≤ 9) (hb : b.length ≤ 9) (h : typedP ts x r a b = some out) : out.length ≤ 1048580 := by
  have h0 := hwl 0
  have h1 := hwl 1
  unfold typedP at h
  split at h
  · split at h
    · cases h
    · rename_i t _
      have := hlc t
      cases h; omega
  · split at h
    · cases h; omega
    · cases h
  · split at h
    · cases h
    · rename_i cs hc
      have := (colsOf_len hc).1
      cases h; simp [pickB]; omega
  · split at h
    · cases h
    · rename_i cs hc
      have := (colsOf_len hc).1
      cases h; simp [pickB]; omega
  · split at h
    · cases h
    · rename_i cs hc
      have := (colsOf_len hc).1
      split at h
      · cases h
      · split at h
        · cases h
        · cases h; simp [pickB]; omega
  · split at h
    · split at h
      · cases h; simp; omega
      · cases h
    · cases h
  · split at h
    · cases h; omega
    · cases h
  · cases h

set_option maxRecDepth 10000 in
set_option maxHeartbeats 1000000 in
theorem types_any (ts : List (List UInt8 × List Bool)) (ws : List (List UInt8)) (hl : ws.length ≤ 60) (hlt : ts.length ≤ 1048577)
    (hlc : ∀ t, (ts.getD t ([], [])).2.length ≤ 5) (hlp : ∀ t, t < ts.length → 1 ≤ (ts.getD t ([], [])).2.length) (hwl : ∀ j, (wordAt ws j).length ≤ 1048576) (k : Nat) :
    ∀ (vs vw : Value) (i : Nat) (w : World), ws.length < i + k → i ≤ 1000 → ReadsTabs Value.bool w vs ts → Reads w vw (ws.map fun l => .string (bs l)) →
    Calls Tryz.prog 107 #[vs, vw, .int .i64 i] w fun e w' => ∃ v, e = .returned (.tuple #[v, .bool (typesP ts (ws.drop i)).isSome]) ∧ TyAns w' (typesP ts (ws.drop i)) v ∧ Below w.heap.size w w' := by
  induction k with
  | zero =>
    intro vs vw i w hk hi hvs hvw
    have hv := viewLen_any ws hl 0 vw i w hk hi hvw
    have hd : ws.drop i = [] := List.drop_of_length_le (by omega)
    rw [hd] at hv ⊢
    simp only [viewLen_nil, idxOf] at hv
    simp only [typesP_nil]
    exact (ts_none w vs vw i hi hv).mono fun e w' ⟨g1, g2⟩ => ⟨_, g1, fun xs h => (by cases h), below_of_eq g2⟩
  | succ k ih =>
    intro vs vw i w hk hi hvs hvw
    have hv := viewLen_any ws hl (k + 1) vw i w hk hi hvw
    rcases wordAt_drop ws i with ⟨x, r, h1, h2, h3, h4⟩ | ⟨h1, h2, h3⟩
    case inr =>
      rw [h1] at hv ⊢
      simp only [viewLen_nil, idxOf] at hv
      simp only [typesP_nil]
      exact (ts_none w vs vw i hi hv).mono fun e w' ⟨g1, g2⟩ => ⟨_, g1, fun xs h => (by cases h), below_of_eq g2⟩
    have hh := heads_any ws vw i w hl hi hvw
    have hrl : r.length + 1 + i = ws.length := by
      have := congrArg List.length h1
      simp at this; omega
    rw [h1] at hv hh ⊢
    rw [typesP_cons]
    cases hvl : viewLen (x :: r) with
    | none =>
      rw [hvl] at hv
      exact (ts_none w vs vw i hi hv).mono fun e w' ⟨g1, g2⟩ => ⟨_, g1, fun xs h => (by cases h), below_of_eq g2⟩
    | some l =>
    rw [hvl] at hv
    simp only [idxOf] at hv
    simp only [headsI] at hh
    cases hr : headR x r with
    | none => rw [viewLen_cons, hr] at hvl; cases hvl
    | some p =>
    obtain ⟨h, kids⟩ := p
    rw [hr] at hh
    have hparts := viewLen_parts hvl hr
    have hkl := (headR_le hr).2
    simp only [] at hh ⊢
    have ec : ((h : Int) + 1) = ((h + 1 : Nat) : Int) := by omega
    rw [ec] at hh
    have hrw : ∀ j, wordAt r j = wordAt ws (i + 1 + j) := fun j => by rw [← h3, wordAt_drop2]
    have hty : ∀ (xs ys : List Bool) (w1 : World) (va vb : Value), Below w.heap.size w w1 → Reads w1 va (xs.map .bool) → Reads w1 vb (ys.map .bool) → NilOk va → NilOk vb → xs.length ≤ 9 → ys.length ≤ 9 →
        Calls Tryz.prog 155 #[vs, vw, .int .i64 i, va, vb] w1 fun e w' => ∃ v, e = .returned (.tuple #[v, .bool (typedP ts x r xs ys).isSome]) ∧ TyAns w' (typedP ts x r xs ys) v ∧ Below w1.heap.size w1 w' :=
      fun xs ys w1 va vb hb1 ra rb oa ob hx hy => typed_any ts ws hl hlt (fun t => by have := hlc t; omega) hlp hwl vs vw va vb xs ys i w1 x r h1 h2 h3 h4 (hvs.below hb1) (hvw.below hb1) ra rb oa ob hx hy h kids hr (by omega)
    have hP2 : ∀ (xs ys : List Bool), (typedP ts x r xs ys).isSome = true → ∀ (w' : World) v, TyAns w' (typedP ts x r xs ys) v → ∃ a c, v = .slice a ((typedP ts x r xs ys).getD []).length c := by
      intro xs ys hs w' v hta
      cases ho : typedP ts x r xs ys with
      | none => rw [ho] at hs; cases hs
      | some out =>
        obtain ⟨⟨a, c, e, _⟩, _⟩ := hta out ho
        exact ⟨a, c, by rw [e]; simp⟩
    have hn2 : ∀ (xs ys : List Bool), xs.length ≤ 9 → ys.length ≤ 9 → ((typedP ts x r xs ys).getD []).length ≤ 4194304 := by
      intro xs ys hx hy
      cases ho : typedP ts x r xs ys with
      | none => simp
      | some out =>
        have := typedP_len hlc (fun j => by rw [hrw]; exact hwl _) hx hy ho
        simp; omega
    have ihr : ∀ g : Nat, 1 ≤ g → i + g ≤ 1000 → ∀ w1, Below w.heap.size w w1 → Calls Tryz.prog 107 #[vs, vw, .int .i64 ((i : Int) + g)] w1 fun e w' => ∃ v, e = .returned (.tuple #[v, .bool (typesP ts (r.drop (g - 1))).isSome]) ∧ TyAns w' (typesP ts (r.drop (g - 1))) v ∧ Below w1.heap.size w1 w' := by
      intro g hg hgi w1 hb1
      have := ih vs vw (i + g) w1 (by omega) (by omega) (hvs.below hb1) (hvw.below hb1)
      have e : ws.drop (i + g) = r.drop (g - 1) := by
        rw [← h3, List.drop_drop]
        congr 1; omega
      rw [e] at this
      simpa using this
    clear ih
    have r1 := ihr (h + 1) (by omega) (by omega) w (Below.refl _ _)
    rw [Nat.add_sub_cancel] at r1
    match kids, hkl with
    | 0, _ =>
      simp only [if_true]
      rw [wide_some]
      refine (ts_0 w vs vw i hi l (h + 1) _ (by omega) (fun w' v => TyAns w' (typedP ts x r [] []) v) _ (hP2 [] []) (hn2 [] [] (by simp) (by simp)) hv hh ?_).mono ?_
      · exact hty [] [] w _ _ (Below.refl _ _) (Reads.nil _) (Reads.nil _) (.inl rfl) (.inl rfl) (by simp) (by simp)
      · rintro e w' ⟨⟨v, g1, g3⟩, g2⟩
        exact ⟨v, g1, ty_post g3, g2⟩
    | 1, _ =>
      simp only [if_true, Nat.one_ne_zero, if_false]
      cases ha : typesP ts (r.drop h) with
      | none =>
        rw [ha] at r1
        exact (ts_1_no w vs vw i hi l (h + 1) (by omega) _ hv hh r1).mono fun e w' ⟨g1, g2⟩ => ⟨_, g1, fun xs h => (by cases h), g2⟩
      | some a =>
        rw [ha] at r1
        have hal := typesP_le ha
        simp only []
        rw [wide_some]
        refine (ts_1 w vs vw i hi l (h + 1) _ (by omega) (fun w' v => TyAns w' (typedP ts x r a []) v) _ (hP2 a []) (hn2 a [] hal (by simp)) _ hv hh r1 ?_).mono ?_
        · intro w1 v1 hp1 hb1
          have hp := hp1 a rfl
          exact hty a [] w1 _ _ hb1 hp.1 (Reads.nil _) hp.2 (.inl rfl) hal (by simp)
        · rintro e w' ⟨⟨v, g1, g3⟩, g2⟩
          exact ⟨v, g1, ty_post g3, g2⟩
    | 2, _ =>
      simp only [show ¬ (2 = 0) by decide, show ¬ (2 = 1) by decide, if_false]
      obtain ⟨m, hm⟩ := hparts.2 (by decide)
      have hml := viewLen_le hm
      have hdl : (r.drop h).length ≤ r.length := by simp
      have hv2 : ∀ w1, Below w.heap.size w w1 → Calls Tryz.prog 106 #[vw, .int .i64 ((i : Int) + ((h + 1 : Nat) : Int))] w1 fun e w' => e = .returned (.int .i64 (m : Int)) ∧ w' = w1 := by
        intro w1 hb1
        have := viewLen_any ws hl (ws.length + 1) vw (i + (h + 1)) w1 (by omega) (by omega) (hvw.below hb1)
        have e : ws.drop (i + (h + 1)) = r.drop h := by
          rw [← h3, List.drop_drop]
          congr 1; omega
        rw [e, hm] at this
        simpa [idxOf] using this
      have r2 : ∀ w1, Below w.heap.size w w1 → Calls Tryz.prog 107 #[vs, vw, .int .i64 ((i : Int) + ((h + 1 : Nat) : Int) + m)] w1 fun e w' => ∃ v, e = .returned (.tuple #[v, .bool (typesP ts (r.drop (h + m))).isSome]) ∧ TyAns w' (typesP ts (r.drop (h + m))) v ∧ Below w1.heap.size w1 w' := by
        intro w1 hb1
        have := ihr (h + 1 + m) (by omega) (by omega) w1 hb1
        rw [show h + 1 + m - 1 = h + m by omega] at this
        rw [show ((i : Int) + ((h + 1 : Nat) : Int) + m) = (i : Int) + ((h + 1 + m : Nat) : Int) by omega]
        exact this
      rw [hm, Option.getD_some]
      cases ha : typesP ts (r.drop h) with
      | none =>
        rw [ha] at r1
        exact (ts_2_no w vs vw i hi l (h + 1) m (by omega) (by omega) _ _ false _ rfl hv hh r1 hv2 r2).mono fun e w' ⟨g1, g2⟩ => ⟨_, g1, fun xs h => (by cases h), g2⟩
      | some a =>
        rw [ha] at r1
        cases hb : typesP ts (r.drop (h + m)) with
        | none =>
          rw [hb] at r2
          exact (ts_2_no w vs vw i hi l (h + 1) m (by omega) (by omega) _ _ true false rfl hv hh r1 hv2 r2).mono fun e w' ⟨g1, g2⟩ => ⟨_, g1, fun xs h => (by cases h), g2⟩
        | some b =>
          rw [hb] at r2
          have hal := typesP_le ha
          have hbl := typesP_le hb
          simp only []
          rw [wide_some]
          refine (ts_2 w vs vw i hi l (h + 1) _ (by omega) (fun w' v => TyAns w' (typedP ts x r a b) v) _ (hP2 a b) (hn2 a b hal hbl) m (by omega) _ _ hv hh r1 hv2 r2 ?_).mono ?_
          · intro w1 v1 w2 v2 hp1 hb1 hp3 hb2
            have hp := hp1 a rfl
            have hq := hp3 b rfl
            exact hty a b w2 _ _ (hb1.trans (hb2.mono hb1.size)) (hp.1.below hb2) hq.1 hp.2 hq.2 hal hbl
          · rintro e w' ⟨⟨v, g1, g3⟩, g2⟩
            exact ⟨v, g1, ty_post g3, g2⟩
end Go.Proofs.YtnpjldffciociaaGreatDoor
