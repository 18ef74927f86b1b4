import Derived.Test.YtnpjldffciociaaGreatDoorB05
import Derived.Test.YtnpjldffciociaaGreatDoorC07
import Derived.Test.YtnpjldffciociaaGreatDoorB13
namespace Go.Proofs.YtnpjldffciociaaGreatDoor
open Go.RowKit

/-- Texts, with one between each two. -/
def joinL (c : List UInt8) : List (List UInt8) → List UInt8
  | [] => []
  | [x] => x
  | x :: y :: r => x ++ c ++ joinL c (y :: r)
theorem joinL_snoc (c : List UInt8) (l : List (List UInt8)) (x : List UInt8) : joinL c (l ++ [x]) = if l = [] then x else joinL c l ++ c ++ x := by
  induction l with
  | nil => simp [joinL]
  | cons a r ih =>
    cases r with
    | nil => simp [joinL]
    | cons b r => simp only [List.cons_append] at ih ⊢; rw [joinL, ih]; simp [joinL]

theorem joinL_len (c : List UInt8) (hc : c.length ≤ 100) (l : List (List UInt8)) (h : ∀ x ∈ l, x.length ≤ 100) : (joinL c l).length ≤ 200 * l.length := by
  induction l with
  | nil => simp [joinL]
  | cons a r ih =>
    have ha := h a (by simp)
    have hr := ih fun x hx => h x (by simp [hx])
    cases r with
    | nil => simp [joinL]; omega
    | cons b r =>
      rw [joinL]
      simp only [List.length_append, List.length_cons] at hr ⊢
      omega
theorem bs_append (a b : List UInt8) : bs a ++ bs b = bs (a ++ b) := by
  apply ByteArray.ext
  simp [bs]

set_option maxRecDepth 10000 in
set_option maxHeartbeats 1000000 in
theorem join_any (v : Value) (l : List (List UInt8)) (c : List UInt8) (w : World) (hv : Reads w v (l.map fun x => .string (bs x))) (hl : l.length ≤ 100) (hc : c.length ≤ 100) (hw : ∀ x ∈ l, x.length ≤ 100) :
    Calls Tryz.prog 63 #[v, .string (bs c)] w fun e w' => e = .returned (.string (bs (joinL c l))) ∧ w' = w := by
  obtain ⟨a, cap, rfl, hcell⟩ := hv
  rw [List.length_map]
  have HC : Hid _ := hcell
  have HW : Hid _ := hw
  clear hcell hw
  have hba := bs_append
  go_enter Tryz.func63, Tryz.ntmps63
  go_wp2
  go_loop [5, 6] (fun s i => ∃ k : Nat, k ≤ l.length ∧ i = .int .i64 k ∧ s = .string (bs (joinL c (l.take k)))) (fun _ i => l.length - (intOf i).toNat)
  case atStart => exact ⟨0, Nat.zero_le _, rfl, rfl⟩
  case round =>
    obtain ⟨k, hk, rfl, rfl⟩ := hrel
    by_cases hlt : k < l.length
    · obtain ⟨b, off, rfl, hbl, hc1⟩ := HC.out k (.string (bs l[k])) (by simp [hlt])
      have HJ : Hid (joinL c (l.take (k + 1)) = if k = 0 then l[k] else joinL c (l.take k) ++ c ++ l[k]) := by
        show _ = _
        rw [List.take_succ_eq_append_getElem hlt, joinL_snoc]
        by_cases h0 : k = 0
        · subst h0; simp
        · have : l.take k ≠ [] := by
            intro e
            have := congrArg List.length e
            rw [List.length_take] at this
            simp only [List.length_nil] at this
            omega
          rw [if_neg this, if_neg h0]
      have hjl : (joinL c (l.take k)).length ≤ 200 * k := by
        have := joinL_len c hc (l.take k) fun x hx => HW.out x (List.mem_of_mem_take hx)
        rw [List.length_take] at this
        omega
      have hxl : (l[k]).length ≤ 100 := HW.out _ (List.getElem_mem hlt)
      by_cases h0 : k = 0
      · subst h0
        simp only [Nat.add_zero] at hc1
        have e0 : joinL c (l.take 0) = [] := rfl
        rw [e0]
        have HJ' : Hid _ := Hid.mk (HJ.out.trans (if_pos rfl))
        clear HJ
        generalize l[0] = y at *
        have hy : bs [] ++ bs y = bs y := by rw [bs_append]; rfl
        go_wp2
        go_round
        case rel => exact ⟨1, by omega, by go_num, by rw [HJ'.out]⟩
        case measure => simp [intOf]; omega
      · have HJ' : Hid _ := Hid.mk (HJ.out.trans (if_neg h0))
        clear HJ
        generalize l[k] = y at *
        generalize joinL c (l.take k) = J at *
        go_wp2
        go_round
        case rel => exact ⟨k + 1, by omega, by go_num, by rw [HJ'.out]; simp⟩
        case measure => simp [intOf]; omega
    · go_wp2
      go_ret
      rw [List.take_of_length_le (by omega)]
      exact ⟨rfl, rfl⟩
end Go.Proofs.YtnpjldffciociaaGreatDoor
namespace Go.Proofs.YtnpjldffciociaaGreatDoor
open Go.RowKit

/-- The types of a view's columns. -/
def typesTop (ts : List (List UInt8 × List Bool)) (l : List UInt8) : Option (List Bool) :=
  if 60 < (spl 32 l).length then none
  else if viewLen (spl 32 l) = some (spl 32 l).length then typesP ts (spl 32 l) else none

set_option maxRecDepth 10000 in
set_option maxHeartbeats 1000000 in
theorem tt_long (w : World) (vs : Value) (s : ByteArray) (n : Nat) (hn : 60 < n) (hn2 : n ≤ 4194304)
    (hs : Calls Tryz.prog 103 #[.string s, .int .u8 32] w fun e w' => ∃ v, e = .returned v ∧ (∃ a c, v = .slice a n c) ∧ Below w.heap.size w w') :
    Calls Tryz.prog 62 #[vs, .string s] w fun e w' => e = .returned (.tuple #[.slice none 0 0, .bool false]) ∧ Below w.heap.size w w' := by
  go_enter Tryz.func62, Tryz.ntmps62
  go_wp2_with (go_at_call 103; refine hs.mono ?_; rintro e w1 ⟨v1, rfl, ⟨a1, c1, rfl⟩, hb1⟩)
  go_ret2
  exact ⟨rfl, hb1⟩

set_option maxRecDepth 10000 in
set_option maxHeartbeats 1000000 in
theorem tt_go (w : World) (vs : Value) (s : ByteArray) (n : Nat) (hn : n ≤ 60) (P1 : World → Value → Prop) (P2 : World → Value → Prop) (q : Int) (ok : Bool)
    (hs : Calls Tryz.prog 103 #[.string s, .int .u8 32] w fun e w' => ∃ v, e = .returned v ∧ (∃ a c, v = .slice a n c) ∧ P1 w' v ∧ Below w.heap.size w w')
    (hv : ∀ w1 v1, P1 w1 v1 → Calls Tryz.prog 106 #[v1, .int .i64 0] w1 fun e w' => e = .returned (.int .i64 q) ∧ w' = w1)
    (ht : ∀ w1 v1, Below w.heap.size w w1 → P1 w1 v1 → Calls Tryz.prog 107 #[vs, v1, .int .i64 0] w1 fun e w' => ∃ v, e = .returned (.tuple #[v, .bool ok]) ∧ P2 w' v ∧ Below w1.heap.size w1 w') :
    Calls Tryz.prog 62 #[vs, .string s] w fun e w' => (∃ v, e = .returned (.tuple #[v, .bool (ok && (q == (n : Int)))]) ∧ P2 w' v) ∧ Below w.heap.size w w' := by
  cases ok
  all_goals
    go_enter Tryz.func62, Tryz.ntmps62
    go_wp2_with (first
      | (go_at_call 103; refine hs.mono ?_; rintro e w1 ⟨v1, rfl, ⟨a1, c1, rfl⟩, hp1, hb1⟩)
      | (go_at_call 106; refine (hv _ _ hp1).mono ?_; rintro e w' ⟨rfl, hw⟩; obtain rfl := hw.symm)
      | (go_at_call 107; refine (ht _ _ hb1 hp1).mono ?_; rintro e w2 ⟨v2, rfl, hp2, hb2⟩))
    go_ret2
    exact ⟨⟨_, rfl, hp2⟩, hb1.trans (hb2.mono hb1.size)⟩

theorem wordAt_len {l : List UInt8} {c : UInt8} {M : Nat} (h : l.length ≤ M) (j : Nat) : (wordAt (spl c l) j).length ≤ M := by
  unfold wordAt
  cases hj : (spl c l)[j]? with
  | none => simp
  | some x =>
    have := spl_mem_length c l x (List.mem_of_getElem? hj)
    simp; omega

theorem types_top (ts : List (List UInt8 × List Bool)) (vs : Value) (s : ByteArray) (w : World) (hs : s.size ≤ 1048576) (hlt : ts.length ≤ 1048577)
    (hlc : ∀ t, (ts.getD t ([], [])).2.length ≤ 5) (hlp : ∀ t, t < ts.length → 1 ≤ (ts.getD t ([], [])).2.length) (hvs : ReadsTabs Value.bool w vs ts) :
    Calls Tryz.prog 62 #[vs, .string s] w fun e w' => ∃ v, e = .returned (.tuple #[v, .bool (typesTop ts s.data.toList).isSome]) ∧ TyAns w' (typesTop ts s.data.toList) v ∧ Below w.heap.size w w' := by
  have hsp := split_any s 32 w (by omega)
  have hlen := spl_length_le 32 s.data.toList
  have hwl := fun j => wordAt_len (c := 32) (l := s.data.toList) (M := 1048576) (by simpa using hs) j
  have hl2 : s.data.toList.length ≤ 1048576 := by simpa using hs
  unfold typesTop
  by_cases h60 : 60 < (spl 32 s.data.toList).length
  · rw [if_pos h60]
    refine (tt_long w vs s _ h60 (by omega) (hsp.mono ?_)).mono ?_
    · rintro e w' ⟨v, g1, g2, g3⟩
      obtain ⟨a, c, e2, _⟩ := Reads.of_owns g2
      exact ⟨v, g1, ⟨a, c, by rw [e2]; simp⟩, g3⟩
    · rintro e w' ⟨g1, g2⟩
      exact ⟨_, g1, fun xs h => (by cases h), g2⟩
  · rw [if_neg h60]
    refine (tt_go w vs s (spl 32 s.data.toList).length (by omega) (fun w' v => Reads w' v ((spl 32 s.data.toList).map fun l => .string (bs l))) (fun w' v => TyAns w' (typesP ts (spl 32 s.data.toList)) v) (idxOf (viewLen (spl 32 s.data.toList))) (typesP ts (spl 32 s.data.toList)).isSome (hsp.mono ?_) ?_ ?_).mono ?_
    · rintro e w' ⟨v, g1, g2, g3⟩
      have hr := Reads.of_owns g2
      obtain ⟨a, c, e2, _⟩ := id hr
      exact ⟨v, g1, ⟨a, c, by rw [e2]; simp⟩, hr, g3⟩
    · intro w1 v1 hp1
      have := viewLen_any (spl 32 s.data.toList) (by omega) ((spl 32 s.data.toList).length + 1) v1 0 w1 (by omega) (by omega) hp1
      simpa using this
    · intro w1 v1 hb1 hp1
      have := types_any ts (spl 32 s.data.toList) (by omega) hlt hlc hlp hwl ((spl 32 s.data.toList).length + 1) vs v1 0 w1 (by omega) (by omega) (hvs.below hb1) hp1
      simpa using this
    · rintro e w' ⟨⟨v, g1, g3⟩, g2⟩
      by_cases hq : viewLen (spl 32 s.data.toList) = some (spl 32 s.data.toList).length
      · rw [if_pos hq]
        refine ⟨v, ?_, g3, g2⟩
        rw [g1, hq]
        simp [idxOf]
      · rw [if_neg hq]
        refine ⟨v, ?_, fun xs h => (by cases h), g2⟩
        rw [g1]
        have : (idxOf (viewLen (spl 32 s.data.toList)) == (((spl 32 s.data.toList).length : Nat) : Int)) = false := by
          cases hv : viewLen (spl 32 s.data.toList) with
          | none => simp [idxOf]
          | some m =>
            rw [hv] at hq
            simp only [idxOf]
            rw [beq_eq_false_iff_ne]
            intro e0
            exact hq (by congr 1; omega)
        rw [this]; simp

abbrev wInt : List UInt8 := [105, 110, 116]
abbrev wText : List UInt8 := [116, 101, 120, 116]
def tword (b : Bool) : List UInt8 := if b then wText else wInt

theorem ret_sn {a b : ByteArray} {n m : Int} (h : a = b) (h2 : n = m) : Ending.returned (.tuple #[.string a, .int .i64 n]) = .returned (.tuple #[.string b, .int .i64 m]) := by rw [h, h2]

set_option maxRecDepth 10000 in
set_option maxHeartbeats 1000000 in
theorem ck_schema (w : World) (a b : ByteArray)
    (hs : Calls Tryz.prog 61 #[.string a] w fun e w' => ∃ v, e = .returned (.tuple #[v, .bool false]) ∧ Below w.heap.size w w') :
    Calls Tryz.prog 34 #[.string a, .string b] w fun e w' => e = .returned (.tuple #[.string (bs []), .int .i64 1]) ∧ Below w.heap.size w w' := by
  go_enter Tryz.func34, Tryz.ntmps34
  go_wp2_with (go_at_call 61; refine hs.mono ?_; rintro e w1 ⟨v1, rfl, hb1⟩)
  go_ret2
  exact ⟨rfl, hb1⟩

set_option maxRecDepth 10000 in
set_option maxHeartbeats 1000000 in
theorem ck_view (w : World) (a b : ByteArray) (P1 : World → Value → Prop)
    (hs : Calls Tryz.prog 61 #[.string a] w fun e w' => ∃ v, e = .returned (.tuple #[v, .bool true]) ∧ P1 w' v ∧ Below w.heap.size w w')
    (ht : ∀ w1 v1, P1 w1 v1 → Calls Tryz.prog 62 #[v1, .string b] w1 fun e w' => ∃ v, e = .returned (.tuple #[v, .bool false]) ∧ Below w1.heap.size w1 w') :
    Calls Tryz.prog 34 #[.string a, .string b] w fun e w' => e = .returned (.tuple #[.string (bs []), .int .i64 3]) ∧ Below w.heap.size w w' := by
  go_enter Tryz.func34, Tryz.ntmps34
  go_wp2_with (first
    | (go_at_call 61; refine hs.mono ?_; rintro e w1 ⟨v1, rfl, hp1, hb1⟩)
    | (go_at_call 62; refine (ht _ _ hp1).mono ?_; rintro e w2 ⟨v2, rfl, hb2⟩))
  go_ret2
  exact ⟨rfl, hb1.trans (hb2.mono hb1.size)⟩

set_option maxRecDepth 10000 in
set_option maxHeartbeats 1000000 in
theorem ck_ok (w : World) (a b : ByteArray) (P1 : World → Value → Prop) (xs : List Bool) (hx : xs.length ≤ 9)
    (hs : Calls Tryz.prog 61 #[.string a] w fun e w' => ∃ v, e = .returned (.tuple #[v, .bool true]) ∧ P1 w' v ∧ Below w.heap.size w w')
    (ht : ∀ w1 v1, P1 w1 v1 → Calls Tryz.prog 62 #[v1, .string b] w1 fun e w' => ∃ v, e = .returned (.tuple #[v, .bool true]) ∧ Reads w' v (xs.map Value.bool) ∧ Below w1.heap.size w1 w') :
    Calls Tryz.prog 34 #[.string a, .string b] w fun e w' => e = .returned (.tuple #[.string (bs (joinL [32] (xs.map tword))), .int .i64 0]) ∧ Below w.heap.size w w' := by
  obtain ⟨i0, hi0, hz0, hz1, hz2⟩ := info_parts Tryz.infoStr
  go_enter Tryz.func34, Tryz.ntmps34
  go_wp2_with (first
    | (go_at_call 61; refine hs.mono ?_; rintro e w1 ⟨v1, rfl, hp1, hb1⟩)
    | (go_at_call 62; refine (ht _ _ hp1).mono ?_; rintro e w2 ⟨v2, rfl, hr2, hb2⟩))
  obtain ⟨av, capv, rfl, hcell⟩ := hr2
  rw [List.length_map]
  have HC : Hid _ := hcell
  clear hcell hs ht hp1
  go_loopw [10, 11] (fun u i wr => ∃ (k : Nat), k ≤ xs.length ∧ i = .int .i64 k ∧ wr.ownsRow w2.heap.size 9 1 u k (((xs.take k).map tword).map fun l => .string (bs l)) ∧ Below w2.heap.size w2 wr) (fun _ i _ => xs.length - (intOf i).toNat)
  case atStart => exact ⟨0, Nat.zero_le _, rfl, World.ownsRow_nil _ _ _ _, Below.refl _ _⟩
  case round =>
    obtain ⟨k, hk, rfl, hown, hbel⟩ := hrel
    by_cases hlt : k < xs.length
    · obtain ⟨x0, HX0⟩ : ∃ x0, Hid (xs[k] = x0) := exHid _
      obtain ⟨b', off', rfl, hbl', hc2⟩ := HC.out k (.bool x0) (by rw [List.getElem?_map, List.getElem?_eq_getElem hlt, HX0.out]; rfl)
      rw [← hbel.cell (p := ⟨_, _, none⟩) hbl'] at hc2
      have hT : Hid (((xs.take (k + 1)).map tword).map (fun l => Value.string (bs l)) = ((xs.take k).map tword).map (fun l => Value.string (bs l)) ++ [.string (bs (tword x0))]) := by
        show _ = _
        rw [List.take_succ_eq_append_getElem hlt, HX0.out]
        simp
      cases x0
      all_goals
        go_wp2_with (at_builtin; refine append_one rfl _ _ 26 rfl w2.heap.size 9 i0 (.string ByteArray.empty) 16 Tryz.underlying26 hi0 hz0 hz1 hz2 rfl _ _ _ rfl hown _ rfl rfl (by unfold maxLen; omega) (by omega) hbel.size ?_; intro v' w3 hown' hb3 _)
        go_roundw
        case rel =>
          refine ⟨k + 1, by omega, by go_num, ?_, hbel.trans hb3⟩
          rw [hT.out]; exact hown'
        case measure => simp [intOf]; omega
    · have hfull : xs.take k = xs := List.take_of_length_le (by omega)
      rw [hfull] at hown
      have hj := fun w => join_any u10 (xs.map tword) [32] w
      have hj' := hj wr (by exact Reads.of_owns hown) (by simp; omega) (by simp) (by intro x hx; obtain ⟨z, _, rfl⟩ := List.mem_map.1 hx; cases z <;> simp [tword])
      clear hj hown hfull
      go_wp2_with (go_at_call 63; refine hj'.mono ?_; rintro e w4 ⟨rfl, hw⟩; obtain rfl := hw.symm)
      go_ret2
      exact ⟨rfl, (hb1.trans (hb2.mono hb1.size)).trans (hbel.mono (Nat.le_trans hb1.size hb2.size))⟩
end Go.Proofs.YtnpjldffciociaaGreatDoor
namespace Go.Proofs.YtnpjldffciociaaGreatDoor
open Go.RowKit

/-- What every table of a schema keeps to. -/
def TabOk (t : List UInt8 × List Bool) : Prop := 1 ≤ t.2.length ∧ t.2.length ≤ 5
theorem tableOf_ok {p : List UInt8} {t : List UInt8 × List Bool} (h : tableOf p = some t) : TabOk t := by
  unfold tableOf at h
  split at h
  · cases h
  · split at h
    · rename_i hc
      simp at hc
      cases h
      simp [TabOk]
      omega
    · cases h
theorem schemaGo_ok : ∀ (ps : List (List UInt8)) (acc ts : List (List UInt8 × List Bool)), (∀ t ∈ acc, TabOk t) → schemaGo acc ps = some ts → ∀ t ∈ ts, TabOk t := by
  intro ps
  induction ps with
  | nil => intro acc ts ha h; simp [schemaGo] at h; subst h; exact ha
  | cons p r ih =>
    intro acc ts ha h
    rw [schemaGo] at h
    split at h
    · cases h
    · rename_i t ht
      split at h
      · cases h
      · refine ih _ ts ?_ h
        intro x hx
        rcases List.mem_append.1 hx with hx | hx
        · exact ha x hx
        · simp at hx; subst hx; exact tableOf_ok ht
theorem schemaP_ok {l : List UInt8} {ts : List (List UInt8 × List Bool)} (h : schemaP l = some ts) : ts.length ≤ 6 ∧ ∀ t ∈ ts, TabOk t := by
  unfold schemaP at h
  split at h
  · cases h
  · rename_i us hu
    split at h
    · cases h; exact ⟨by assumption, schemaGo_ok _ _ _ (by simp) hu⟩
    · cases h
theorem tabs_lc {ts : List (List UInt8 × List Bool)} (h : ∀ t ∈ ts, TabOk t) : (∀ t, (ts.getD t ([], [])).2.length ≤ 5) ∧ (∀ t, t < ts.length → 1 ≤ (ts.getD t ([], [])).2.length) := by
  constructor
  · intro t
    by_cases ht : t < ts.length
    · have := (h ts[t] (List.getElem_mem ht)).2
      simpa [List.getD, ht] using this
    · simp [List.getD, List.getElem?_eq_none (Nat.le_of_not_lt ht)]
  · intro t ht
    have := (h ts[t] (List.getElem_mem ht)).1
    simpa [List.getD, ht] using this

/-- What Check answers, by the document. -/
def checkP (a b : List UInt8) : List UInt8 × Int :=
  match schemaP a with
  | none => ([], 1)
  | some ts => match typesTop ts b with
    | none => ([], 3)
    | some xs => (joinL [32] (xs.map tword), 0)

theorem typesTop_le {ts : List (List UInt8 × List Bool)} {l : List UInt8} {xs : List Bool} (h : typesTop ts l = some xs) : xs.length ≤ 9 := by
  unfold typesTop at h
  split at h
  · cases h
  · split at h
    · exact typesP_le h
    · cases h

/-- THE DOCUMENT's Check. -/
theorem ref_check (a b : ByteArray) (w : World) (ha : a.size ≤ 1048576) (hb : b.size ≤ 1048576) :
    Calls Tryz.prog 34 #[.string a, .string b] w fun e w' => e = .returned (.tuple #[.string (bs (checkP a.data.toList b.data.toList).1), .int .i64 (checkP a.data.toList b.data.toList).2]) ∧ Below w.heap.size w w' := by
  have hsc := schema_any a w ha
  unfold checkP
  cases hs : schemaP a.data.toList with
  | none =>
    rw [hs] at hsc
    refine ck_schema w a b (hsc.mono ?_)
    rintro e w' ⟨⟨v, g1, _⟩, g2⟩
    exact ⟨v, g1, g2⟩
  | some ts =>
    rw [hs] at hsc
    have hok := schemaP_ok hs
    have hlc := tabs_lc hok.2
    have hty := fun w1 v1 (hv : ReadsTabs Value.bool w1 v1 ts) => types_top ts v1 b w1 hb (by omega) hlc.1 hlc.2 hv
    simp only []
    cases ht : typesTop ts b.data.toList with
    | none =>
      rw [ht] at hty
      refine ck_view w a b (fun w' v => ReadsTabs Value.bool w' v ts) (hsc.mono ?_) ?_
      · rintro e w' ⟨⟨v, g1, g3⟩, g2⟩
        exact ⟨v, g1, g3 ts rfl, g2⟩
      · intro w1 v1 hv
        refine (hty w1 v1 hv).mono ?_
        rintro e w' ⟨v, g1, _, g2⟩
        exact ⟨v, g1, g2⟩
    | some xs =>
      rw [ht] at hty
      refine ck_ok w a b (fun w' v => ReadsTabs Value.bool w' v ts) xs (typesTop_le ht) (hsc.mono ?_) ?_
      · rintro e w' ⟨⟨v, g1, g3⟩, g2⟩
        exact ⟨v, g1, g3 ts rfl, g2⟩
      · intro w1 v1 hv
        refine (hty w1 v1 hv).mono ?_
        rintro e w' ⟨v, g1, g3, g2⟩
        exact ⟨v, g1, (g3 xs rfl).1, g2⟩
end Go.Proofs.YtnpjldffciociaaGreatDoor
