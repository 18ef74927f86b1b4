import Derived.Test.YtiekijfmafklfaaGreatDoorRefLaw2
namespace Go.Proofs.YtiekijfmafklfaaGreatDoor
open Go.RowKit

/-- What the document's Law takes. -/
def lawD (ts : List (List UInt8 × List Bool)) (l : List UInt8) : Bool := l.isEmpty || lawR ts 0 [] (spl 59 l)
theorem rlaw_any (vs : Value) (ts : List (List UInt8 × List Bool)) (s : ByteArray) (w : World) (hok : TabsOk ts) (hts : ReadsTabs Value.bool w vs ts) (hs : s.size ≤ 1048576) :
    Calls Tryz.prog 20 #[vs, .string s] w fun e w' => (∃ v, e = .returned (.tuple #[v, .bool (lawD ts s.data.toList)])) ∧ Below w.heap.size w w' := by
  have htl : s.toList = s.data.toList := ByteArray.toList_eq s
  unfold lawD
  by_cases h0 : s.data.toList = []
  · have e : s = ByteArray.empty := by
      cases s with | mk d => simp at h0; subst h0; rfl
    subst e
    exact rlaw_empty vs w
  · have h0' : s.data.toList.isEmpty = false := by simpa using h0
    rw [h0', Bool.false_or]
    exact rlaw_go vs ts s w (by rw [htl]; exact h0') hok hts hs
set_option maxRecDepth 10000 in
set_option maxHeartbeats 1000000 in
theorem rcl_schema (a b : ByteArray) (w : World)
    (h1 : Calls Tryz.prog 16 #[.string a] w fun e w' => (∃ v, e = .returned (.tuple #[v, .bool false])) ∧ Below w.heap.size w w') :
    Calls Tryz.prog 11 #[.string a, .string b] w fun e w' => e = .returned (.int .i64 1) ∧ Below w.heap.size w w' := by
  go_enter Tryz.func11, Tryz.ntmps11
  go_wp2_with (go_at_call 16; refine h1.mono ?_; rintro e w1 ⟨⟨v, rfl⟩, hb1⟩)
  go_ret
  exact ⟨rfl, hb1⟩
set_option maxRecDepth 10000 in
set_option maxHeartbeats 1000000 in
theorem rcl_law (a b : ByteArray) (w : World) (ok : Bool) (n : Int) (hn : n = (match ok with | true => 0 | false => 4)) (P : World → Value → Prop)
    (h1 : Calls Tryz.prog 16 #[.string a] w fun e w' => (∃ v, e = .returned (.tuple #[v, .bool true]) ∧ P w' v) ∧ Below w.heap.size w w')
    (h2 : ∀ w1 v, P w1 v → Calls Tryz.prog 20 #[v, .string b] w1 fun e w' => (∃ v, e = .returned (.tuple #[v, .bool ok])) ∧ Below w1.heap.size w1 w') :
    Calls Tryz.prog 11 #[.string a, .string b] w fun e w' => e = .returned (.int .i64 n) ∧ Below w.heap.size w w' := by
  cases ok
  all_goals
    simp only at hn
    subst hn
    go_enter Tryz.func11, Tryz.ntmps11
    go_wp2_with (first
      | (go_at_call 16; refine h1.mono ?_; rintro e w1 ⟨⟨v, rfl, hP⟩, hb1⟩)
      | (go_at_call 20; refine (h2 _ _ hP).mono ?_; rintro e w2 ⟨⟨v2, rfl⟩, hb2⟩))
    go_ret
    exact ⟨rfl, hb1.trans (hb2.mono hb1.size)⟩
/-- What CheckLaw answers, by the document. -/
def lawNumD (a b : List UInt8) : Int :=
  match schemaP a with
  | none => 1
  | some ts => match lawD ts b with
    | true => 0
    | false => 4
/-- THE DOCUMENT's CheckLaw. -/
theorem ref_checkLaw (a b : ByteArray) (w : World) (ha : a.size ≤ 1048576) (hb : b.size ≤ 1048576) :
    Calls Tryz.prog 11 #[.string a, .string b] w fun e w' => e = .returned (.int .i64 (lawNumD a.data.toList b.data.toList)) ∧ Below w.heap.size w w' := by
  have hsc := schema_any a w ha
  unfold lawNumD
  cases hs : schemaP a.data.toList with
  | none =>
    rw [hs] at hsc
    refine rcl_schema a b w (hsc.mono ?_)
    rintro e w' ⟨⟨v, g1, _⟩, g2⟩
    exact ⟨⟨v, g1⟩, g2⟩
  | some ts =>
    rw [hs] at hsc
    refine rcl_law a b w (lawD ts b.data.toList) _ rfl (fun w1 v => ReadsTabs Value.bool w1 v ts) (hsc.mono ?_) fun w1 v hv => rlaw_any v ts b w1 (schemaP_tabs hs) hv hb
    rintro e w' ⟨⟨v, g1, g3⟩, g2⟩
    exact ⟨⟨v, g1, g3 ts rfl⟩, g2⟩
end Go.Proofs.YtiekijfmafklfaaGreatDoor
