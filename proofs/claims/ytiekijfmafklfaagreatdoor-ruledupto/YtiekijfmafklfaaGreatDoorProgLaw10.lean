import Derived.Test.YtiekijfmafklfaaGreatDoorProgLaw9
namespace Go.Proofs.YtiekijfmafklfaaGreatDoor
open Go.RowKit

theorem tableOf_okL {p : List UInt8} {t : List UInt8 × List Bool} (h : tableOf p = some t) : 1 ≤ t.2.length ∧ t.2.length ≤ 5 ∧ isNameL t.1 = true := by
  unfold tableOf at h
  split at h
  · cases h
  · split at h
    · rename_i hc
      simp at hc
      cases h
      simp [hc]
    · cases h
theorem schemaGo_okL : ∀ (ps : List (List UInt8)) (acc ts : List (List UInt8 × List Bool)), (∀ t ∈ acc, 1 ≤ t.2.length ∧ t.2.length ≤ 5 ∧ isNameL t.1 = true) → schemaGo acc ps = some ts → ∀ t ∈ ts, 1 ≤ t.2.length ∧ t.2.length ≤ 5 ∧ isNameL t.1 = true := by
  intro ps
  induction ps with
  | nil => intro acc ts ha h; simp [schemaGo] at h; subst h; exact ha
  | cons p r ih =>
    intro acc ts ha h
    rw [schemaGo] at h
    split at h
    · cases h
    · rename_i t ht
      split at h
      · cases h
      · refine ih _ ts ?_ h
        intro x hx
        rcases List.mem_append.1 hx with hx | hx
        · exact ha x hx
        · simp at hx; subst hx; exact tableOf_okL ht
theorem schemaP_okL {l : List UInt8} {ts : List (List UInt8 × List Bool)} (h : schemaP l = some ts) : ts.length ≤ 6 ∧ ∀ t ∈ ts, 1 ≤ t.2.length ∧ t.2.length ≤ 5 ∧ isNameL t.1 = true := by
  unfold schemaP at h
  split at h
  · cases h
  · rename_i us hu
    split at h
    · cases h; exact ⟨by assumption, schemaGo_okL _ _ _ (by simp) hu⟩
    · cases h
theorem schemaP_tabs {l : List UInt8} {ts : List (List UInt8 × List Bool)} (h : schemaP l = some ts) : TabsOk ts := by
  obtain ⟨h1, h2⟩ := schemaP_okL h
  refine ⟨by omega, fun t => ?_, fun t ht e => ?_⟩
  · unfold typesOf
    by_cases hl : t < ts.length
    · have := (h2 ts[t] (List.getElem_mem hl)).2.1
      simp [List.getD, hl]; omega
    · simp [List.getD, List.getElem?_eq_none (Nat.le_of_not_lt hl)]
  · have := (h2 t ht).2.2
    rw [e] at this
    exact absurd this (by decide)

set_option maxRecDepth 10000 in
set_option maxHeartbeats 1000000 in
theorem pcl_schema (a b : ByteArray) (w : World) (n : Int)
    (h1 : Calls Tryz.prog 12 #[.string a] w fun e w' => ∃ v te pe, e = .returned (.tuple #[v, .iface te pe]) ∧ Below w.heap.size w w' ∧ Calls Tryz.prog 13 #[.iface te pe] w' fun ev w'' => ev = .returned (.int .i64 n) ∧ Below w'.heap.size w' w'') :
    Calls Tryz.prog 10 #[.string a, .string b] w fun e w' => e = .returned (.int .i64 n) ∧ Below w.heap.size w w' := by
  go_enter Tryz.func10, Tryz.ntmps10
  go_wp2_with (first
    | (go_at_call 12; refine h1.mono ?_; rintro e w1 ⟨v, te, pe, rfl, hb1, hc⟩)
    | (go_at_call 13; refine hc.mono ?_; rintro e w2 ⟨rfl, hb2⟩))
  go_ret
  exact ⟨rfl, hb1.trans (hb2.mono hb1.size)⟩
set_option maxRecDepth 10000 in
set_option maxHeartbeats 1000000 in
theorem pcl_law (a b : ByteArray) (w : World) (n : Int) (P : World → Value → Prop)
    (h1 : Calls Tryz.prog 12 #[.string a] w fun e w' => ∃ v, e = .returned (.tuple #[v, .nilIface]) ∧ P w' v ∧ Below w.heap.size w w')
    (h2 : ∀ w1 v, P w1 v → Below w.heap.size w w1 → Calls Tryz.prog 19 #[v, .string b] w1 fun e w' => ∃ v ev, e = .returned (.tuple #[v, ev]) ∧ Below w1.heap.size w1 w' ∧ Calls Tryz.prog 13 #[ev] w' fun er w'' => er = .returned (.int .i64 n) ∧ Below w'.heap.size w' w'') :
    Calls Tryz.prog 10 #[.string a, .string b] w fun e w' => e = .returned (.int .i64 n) ∧ Below w.heap.size w w' := by
  go_enter Tryz.func10, Tryz.ntmps10
  go_wp2_with (first
    | (go_at_call 12; refine h1.mono ?_; rintro e w1 ⟨v, rfl, hP, hb1⟩)
    | (go_at_call 19; refine (h2 _ _ hP hb1).mono ?_; rintro e w2 ⟨v2, ev, rfl, hb2, hc⟩)
    | (go_at_call 13; refine hc.mono ?_; rintro e w3 ⟨rfl, hb3⟩))
  go_ret
  exact ⟨rfl, (hb1.trans (hb2.mono hb1.size)).trans (hb3.mono (Nat.le_trans hb1.size hb2.size))⟩

/-- What CheckLaw answers. -/
def lawNum (a b : List UInt8) : Int :=
  match schemaP a with
  | none => 1
  | some ts => match lawP ts b with
    | true => 0
    | false => 4
/-- THE PROGRAM's CheckLaw. -/
theorem checkLaw_any (a b : ByteArray) (w : World) (ha : a.size ≤ 1048576) (hb : b.size ≤ 1048576) (hg : Glob w) :
    Calls Tryz.prog 10 #[.string a, .string b] w fun e w' => e = .returned (.int .i64 (lawNum a.data.toList b.data.toList)) ∧ Below w.heap.size w w' := by
  have h1 := readSchema_any a w ha hg
  unfold lawNum
  cases hs : schemaP a.data.toList with
  | none =>
    rw [hs] at h1
    refine pcl_schema a b w 1 (h1.mono ?_)
    rintro e w' ⟨⟨v, ev, rfl, hE⟩, hb'⟩
    have hE' : Err w' 1 ev := hE
    obtain ⟨te, pe, rfl⟩ := hE'.form
    exact ⟨v, te, pe, rfl, hb', errnoOf_err 1 _ w' hE' (hg.kept hb')⟩
  | some ts =>
    rw [hs] at h1
    refine pcl_law a b w _ (fun w1 v => ReadsTabs tcode w1 v ts) (h1.mono ?_) ?_
    · rintro e w' ⟨⟨v, ev, rfl, hE, hR⟩, hb'⟩
      have : ev = .nilIface := hE
      subst this
      exact ⟨v, rfl, hR, hb'⟩
    · intro w1 v hv hb1
      have hg1 := hg.kept hb1
      refine (readLaw_any v ts b w1 (schemaP_tabs hs) hv hg1 hb).mono ?_
      rintro e w' ⟨⟨v2, ev, rfl, hE⟩, hb2⟩
      refine ⟨v2, ev, rfl, hb2, ?_⟩
      cases hl : lawP ts b.data.toList with
      | true =>
        rw [hl] at hE
        have : ev = .nilIface := hE
        subst this
        simp only [hl]
        exact errnoOf_nil w'
      | false =>
        rw [hl] at hE
        simp only [hl]
        exact errnoOf_err 4 _ w' hE (hg1.kept hb2)
end Go.Proofs.YtiekijfmafklfaaGreatDoor
