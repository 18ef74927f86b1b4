import Derived.Test.YtiekijfmafklfaaGreatDoorRefH
import Derived.WalkSmall
import Derived.Deep.RegionHeld3
import Derived.Deep.AppendLies
import Derived.Deep.RegionLaw
import Derived.BigRegion
import Derived.Deep.DrawnRows
namespace Go.Proofs.YtiekijfmafklfaaGreatDoor
open Go.RowKit
attribute [local go_sem ↓] Go.wp_at_zero Go.wp_at_succ

abbrev sInt : List UInt8 := [105, 110, 116]
abbrev sText : List UInt8 := [116, 101, 120, 116]
def isType (t : List UInt8) : Bool := t == sInt || t == sText
/-- A table's name and its columns. -/
def tableOf (part : List UInt8) : Option (List UInt8 × List Bool) :=
  match spl 32 part with
  | [] => none
  | n :: tys => if isNameL n && decide (1 ≤ tys.length) && decide (tys.length ≤ 5) && tys.all isType then some (n, tys.map (· == sText)) else none
def schemaGo (acc : List (List UInt8 × List Bool)) : List (List UInt8) → Option (List (List UInt8 × List Bool))
  | [] => some acc
  | p :: r =>
    match tableOf p with
    | none => none
    | some t => if (findT acc t.1).isSome then none else schemaGo (acc ++ [t]) r
/-- The tables of a schema. -/
def schemaP (l : List UInt8) : Option (List (List UInt8 × List Bool)) :=
  match schemaGo [] (spl 59 l) with
  | none => none
  | some ts => if ts.length ≤ 6 then some ts else none

theorem owns_below {w w' : World} {base : Nat} {e : TypeId} {size : Nat} {v : Value} {n : Nat} {xs : List Value} (h : w.ownsRow base e size v n xs) (hb : Below w.heap.size w w') : w'.ownsRow base e size v n xs := by
  obtain ⟨hl, ⟨rfl, rfl⟩ | ⟨g, cap, cur, rfl, hb1, hh, hn, hm, hs, ht⟩⟩ := h
  · exact ⟨hl, .inl ⟨rfl, rfl⟩⟩
  · refine ⟨hl, .inr ⟨g, cap, cur, rfl, hb1, ?_, hn, hm, hs, ht⟩⟩
    rw [hb.block g (Array.getElem?_eq_some_iff.1 hh).1]; exact hh

/-- The rows of tables: each one's name, and where its types lie. -/
def flatT (ts : List (List UInt8 × List Bool)) (tvs : List Value) : List Value := (ts.zip tvs).flatMap fun p => [.string (bs p.1.1), p.2]

/-- The tables as they are being made. -/
def TabsOwn (w : World) (base : Nat) (v : Value) (ts : List (List UInt8 × List Bool)) : Prop :=
  ∃ tvs : List Value, tvs.length = ts.length ∧ w.ownsRow base 89 2 v ts.length (flatT ts tvs) ∧
    ∀ (j : Nat) (t : List UInt8 × List Bool) (tv : Value), ts[j]? = some t → tvs[j]? = some tv → w.ownsRow base 4 1 tv t.2.length (t.2.map Value.bool)

theorem TabsOwn.below {w w' : World} {base : Nat} {v : Value} {ts : List (List UInt8 × List Bool)} (h : TabsOwn w base v ts) (hb : Below w.heap.size w w') : TabsOwn w' base v ts := by
  obtain ⟨tvs, hl, ho, hr⟩ := h
  exact ⟨tvs, hl, owns_below ho hb, fun j t tv h1 h2 => owns_below (hr j t tv h1 h2) hb⟩

theorem flat_get : ∀ (ts : List (List UInt8 × List Bool)) (tvs : List Value) (j : Nat) (t : List UInt8 × List Bool) (tv : Value), ts[j]? = some t → tvs[j]? = some tv →
    (flatT ts tvs)[j * 2]? = some (.string (bs t.1)) ∧ (flatT ts tvs)[j * 2 + 1]? = some tv := by
  intro ts
  induction ts with
  | nil => intro tvs j t tv h; simp at h
  | cons a r ih =>
    intro tvs j t tv h1 h2
    cases tvs with
    | nil => simp at h2
    | cons b s =>
      cases j with
      | zero => simp at h1 h2; subst h1 h2; simp [flatT]
      | succ j =>
        simp at h1 h2
        have := ih s j t tv h1 h2
        simp only [flatT, List.zip_cons_cons, List.flatMap_cons] at this ⊢
        have e1 : (j + 1) * 2 = j * 2 + 2 := by omega
        have e2 : j * 2 + 2 + 1 = j * 2 + 1 + 2 := by omega
        rw [e1, e2]
        simpa using this

theorem TabsOwn.reads {w : World} {base : Nat} {v : Value} {ts : List (List UInt8 × List Bool)} (h : TabsOwn w base v ts) : ReadsTabs Value.bool w v ts := by
  obtain ⟨tvs, hl, ⟨hlen, ho⟩, hr⟩ := h
  rcases ho with ⟨rfl, h0⟩ | ⟨g, cap, cur, rfl, hb1, hh, hn, hm, hs, ht⟩
  · exact ⟨none, 0, by rw [h0], fun i t hi => by rw [List.eq_nil_of_length_eq_zero h0] at hi; simp at hi⟩
  · refine ⟨_, cap, rfl, fun i t hi => ?_⟩
    have hil : i < ts.length := (List.getElem?_eq_some_iff.1 hi).1
    have htv : tvs[i]? = some (tvs[i]'(by omega)) := List.getElem?_eq_getElem _
    have hf := flat_get ts tvs i t _ hi htv
    rw [← ht] at hf
    rw [List.getElem?_take_of_lt (by omega), List.getElem?_take_of_lt (by omega)] at hf
    refine ⟨g, 0, tvs[i]'(by omega), rfl, (Array.getElem?_eq_some_iff.1 hh).1, ?_, ?_, Reads.of_owns (hr i t _ hi htv)⟩
    · rw [Nat.zero_add]; simp only [World.cell?, hh]; simpa using hf.1
    · rw [Nat.zero_add]; simp only [World.cell?, hh]; simpa using hf.2

theorem TabsOwn.nil (w : World) (base : Nat) : TabsOwn w base (.slice none 0 0) [] := ⟨[], rfl, World.ownsRow_nil _ _ _ _, fun j t tv h => by simp at h⟩

theorem flat_snoc (ts : List (List UInt8 × List Bool)) (tvs : List Value) (h : tvs.length = ts.length) (t : List UInt8 × List Bool) (tv : Value) : flatT (ts ++ [t]) (tvs ++ [tv]) = flatT ts tvs ++ [.string (bs t.1), tv] := by
  unfold flatT
  rw [List.zip_append (by omega)]
  simp

/-- Two rows of other element types do not share a block. -/
theorem owns_apart {w : World} {b1 b2 : Nat} {e1 e2 : TypeId} {s1 s2 : Nat} {v1 v2 : Value} {n1 n2 : Nat} {x1 x2 : List Value} (h1 : w.ownsRow b1 e1 s1 v1 n1 x1) (h2 : w.ownsRow b2 e2 s2 v2 n2 x2) (hne : e1 ≠ e2) : v1.ownBlock = none ∨ v1.ownBlock ≠ v2.ownBlock := by
  rcases h1.2 with ⟨rfl, _⟩ | ⟨g1, cap1, cur1, rfl, _, hh1, _⟩
  · left; rfl
  · right
    rcases h2.2 with ⟨rfl, _⟩ | ⟨g2, cap2, cur2, rfl, _, hh2, _⟩
    · simp [Value.ownBlock]
    · simp only [Value.ownBlock, ne_eq, Option.some.injEq]
      intro e
      rw [e, hh2] at hh1
      simp at hh1
      exact hne hh1.2.symm

/-- One table more. -/
theorem TabsOwn.grow2 {w w' : World} {base : Nat} {v v' tv : Value} {ts : List (List UInt8 × List Bool)} {t : List UInt8 × List Bool} {tvs : List Value} (hl : tvs.length = ts.length)
    (hr : w.ownsRow base 89 2 v ts.length (flatT ts tvs)) (hrs : ∀ (j : Nat) (t : List UInt8 × List Bool) (tv : Value), ts[j]? = some t → tvs[j]? = some tv → w.ownsRow base 4 1 tv t.2.length (t.2.map Value.bool))
    (ht : w.ownsRow base 4 1 tv t.2.length (t.2.map Value.bool))
    (hg : w.grownBy w' v.ownBlock) (ho : w'.ownsRow base 89 2 v' (ts.length + 1) (flatT ts tvs ++ [.string (bs t.1), tv])) : TabsOwn w' base v' (ts ++ [t]) := by
  refine ⟨tvs ++ [tv], by simp [hl], ?_, ?_⟩
  · rw [List.length_append, flat_snoc ts tvs hl]
    exact ho
  · intro j t' tv' h1 h2
    by_cases hj : j < ts.length
    · rw [List.getElem?_append_left hj] at h1
      rw [List.getElem?_append_left (by omega)] at h2
      exact (hrs j t' tv' h1 h2).kept hg (owns_apart (hrs j t' tv' h1 h2) hr (by decide))
    · have e1 : j = ts.length := by
        have := (List.getElem?_eq_some_iff.1 h1).1
        simp at this; omega
      subst e1
      rw [List.getElem?_append_right (Nat.le_refl _)] at h1
      rw [List.getElem?_append_right (by omega)] at h2
      simp at h1
      simp [hl] at h2
      subst h1 h2
      exact ht.kept hg (owns_apart ht hr (by decide))
theorem owns_base {w : World} {b b' : Nat} {e : TypeId} {size : Nat} {v : Value} {n : Nat} {xs : List Value} (h : w.ownsRow b e size v n xs) (hb : b' ≤ b) : w.ownsRow b' e size v n xs := by
  obtain ⟨hl, ⟨rfl, rfl⟩ | ⟨g, cap, cur, rfl, hb1, hr⟩⟩ := h
  · exact ⟨hl, .inl ⟨rfl, rfl⟩⟩
  · exact ⟨hl, .inr ⟨g, cap, cur, rfl, Nat.le_trans hb hb1, hr⟩⟩
theorem owns_one {w : World} {b : Nat} {e : TypeId} {size : Nat} {v : Value} {n : Nat} {xs : List Value} (h : w.ownsRow b e size v n xs) : v.oneCell' = true := by
  obtain ⟨_, ⟨rfl, _⟩ | ⟨g, cap, cur, rfl, _⟩⟩ := h <;> rfl
end Go.Proofs.YtiekijfmafklfaaGreatDoor
