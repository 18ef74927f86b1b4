import Derived.Test.YtnpjldffciociaaGreatDoorR07
import Derived.Test.YtnpjldffciociaaGreatDoorCards
import Derived.Test.YtnpjldffciociaaGreatDoorTie
import Derived.WalkKit
import Derived.ProofKit
import Derived.OpenShut
import Derived.ChangeMaps5
import Derived.Deep.DeepHandedRow
import Derived.Deep.DeepWitnessRowRef
import Derived.Stop.LaidErr
import Derived.LaidHandle
import Derived.Shelf.Vars
import Derived.Lay
namespace Go.Proofs.YtnpjldffciociaaGreatDoor
open Go.RowKit

theorem findT_name {ts : List (List UInt8 × List Bool)} {x : List UInt8} {t : Nat} (h : findT ts x = some t) : ∃ hl : t < ts.length, ts[t].1 = x := by
  unfold findT at h
  rw [List.findIdx?_eq_some_iff_getElem] at h
  obtain ⟨h1, h2, _⟩ := h
  exact ⟨h1, by simpa using h2⟩
theorem colOf_raw2 {l : List UInt8} {n c : Nat} (hn : n ≤ 9) : colOf l n = some c ↔ colRaw l = some c ∧ c < n := by
  unfold colRaw colOf
  split
  · rename_i ch
    constructor
    · intro h
      split at h
      · rename_i hc
        simp at h
        refine ⟨by rw [if_pos ⟨hc.1, hc.2.1, by omega⟩, h], by omega⟩
      · cases h
    · rintro ⟨h, hcn⟩
      split at h
      · rename_i hc
        simp at h
        rw [if_pos ⟨hc.1, hc.2.1, by omega⟩, h]
      · cases h
  · simp
theorem colRaw_word {x y : List UInt8} {c : Nat} (hx : colRaw x = some c) (hy : colRaw y = some c) : x = y := by
  unfold colRaw colOf at hx hy
  split at hx
  · rename_i a
    split at hy
    · rename_i b
      split at hx
      · split at hy
        · rename_i h1 h2
          simp at hx hy
          have : a.toNat = b.toNat := by omega
          rw [UInt8.toNat.inj this]
        · cases hy
      · cases hx
    · cases hy
  · cases hx
theorem maskP_some {ts : List (List UInt8 × List Bool)} {ws : List (List UInt8)} {t c : Nat} (h : maskP ts ws = some (t, c)) : findT ts (wordAt ws 1) = some t ∧ colRaw (wordAt ws 2) = some c := by
  unfold maskP maskQ at h
  split at h
  · cases h
  · rename_i t' ht
    split at h
    · cases h
    · rename_i c' hc
      split at h
      · cases h
      · split at h
        · simp at h
          rw [← h.1, ← h.2]; exact ⟨ht, hc⟩
        · cases h
theorem mask_key {ts : List (List UInt8 × List Bool)} {a b : List (List UInt8)} {k l : Nat × Nat} (ha : maskP ts a = some k) (hb : maskP ts b = some l) : (l = k) ↔ (wordAt a 1 = wordAt b 1 ∧ wordAt a 2 = wordAt b 2) := by
  obtain ⟨t, c⟩ := k
  obtain ⟨t', c'⟩ := l
  obtain ⟨h1, h2⟩ := maskP_some ha
  obtain ⟨h3, h4⟩ := maskP_some hb
  constructor
  · intro e
    cases e
    obtain ⟨_, e1⟩ := findT_name h1
    obtain ⟨_, e2⟩ := findT_name h3
    exact ⟨e1.symm.trans e2, colRaw_word h2 h4⟩
  · rintro ⟨e1, e2⟩
    rw [e1, h3] at h1
    rw [e2, h4] at h2
    cases h1; cases h2; rfl
theorem rule_mask {ts : List (List UInt8 × List Bool)} {ws : List (List UInt8)} (hok : TabsOk ts) (h : wordAt ws 0 = wMask) : ruleR ts ws = (maskP ts ws).isSome := by
  unfold ruleR maskP maskQ
  cases hf : findT ts (wordAt ws 1) with
  | none => rfl
  | some t =>
    simp only
    rw [if_neg (by rw [h]; decide), if_pos h]
    have hn := hok.narrow t
    generalize typesOf ts t = xs at *
    cases hc : colRaw (wordAt ws 2) with
    | none =>
      have : colOf (wordAt ws 2) xs.length = none := by
        cases hd : colOf (wordAt ws 2) xs.length with
        | none => rfl
        | some c => rw [((colOf_raw2 hn).1 hd).1] at hc; cases hc
      rw [this]; rfl
    | some c =>
      by_cases hl : c < xs.length
      · rw [(colOf_raw2 hn).2 ⟨hc, hl⟩]
        simp only
        cases hv : valKind (wordAt ws 3) with
        | none => rfl
        | some b =>
          simp only
          have e1 : xs[c]? = some (xs.getD c false) := by simp [List.getD, hl]
          rw [e1]
          generalize xs.getD c false = y
          generalize condAt ts xs true ws 4 (ws.length - 4) = z
          cases b <;> cases y <;> cases z <;> rfl
      · have : colOf (wordAt ws 2) xs.length = none := by
          cases hd : colOf (wordAt ws 2) xs.length with
          | none => rfl
          | some c' =>
            have := (colOf_raw2 hn).1 hd
            rw [hc] at this
            obtain ⟨e, h'⟩ := this
            cases e; exact absurd h' hl
        rw [this]
        simp only
        cases hv : valKind (wordAt ws 3) with
        | none => rfl
        | some b =>
          simp only
          have e1 : xs[c]? = none := List.getElem?_eq_none (Nat.le_of_not_lt hl)
          rw [e1]
          simp
theorem rule_allow {ts : List (List UInt8 × List Bool)} {ws : List (List UInt8)} (h : wordAt ws 0 = wAllow) : ruleR ts ws = allowP ts ws := by
  unfold ruleR allowP
  cases hf : findT ts (wordAt ws 1) with
  | none => rfl
  | some t => simp only; rw [if_pos h]
theorem rule_else {ts : List (List UInt8 × List Bool)} {ws : List (List UInt8)} (h1 : wordAt ws 0 ≠ wAllow) (h2 : wordAt ws 0 ≠ wMask) : ruleR ts ws = false := by
  unfold ruleR
  cases hf : findT ts (wordAt ws 1) with
  | none => rfl
  | some t => simp only; rw [if_neg h1, if_neg h2]
/-- The mask that a rule is. -/
def keyOf (ts : List (List UInt8 × List Bool)) (a : List (List UInt8)) : Option (Nat × Nat) := if wordAt a 0 = wMask then maskP ts a else none
theorem dup_key {ts : List (List UInt8 × List Bool)} {ws : List (List UInt8)} {k : Nat × Nat} (hok : TabsOk ts) (hw : wordAt ws 0 = wMask) (hk : maskP ts ws = some k) : ∀ ls : List (List (List UInt8)), (∀ a ∈ ls, ruleR ts a = true) → (ls.any fun a => dupW a ws) = (ls.filterMap (keyOf ts)).contains k := by
  intro ls
  induction ls with
  | nil => intro _; rfl
  | cons a r ih =>
    intro h
    have iha := ih fun b hb => h b (List.mem_cons_of_mem _ hb)
    rw [List.any_cons, iha]
    by_cases ha : wordAt a 0 = wMask
    · have hr := h a List.mem_cons_self
      rw [rule_mask hok ha] at hr
      cases hm : maskP ts a with
      | none => rw [hm] at hr; cases hr
      | some l =>
        have hko : keyOf ts a = some l := by unfold keyOf; rw [if_pos ha, hm]
        rw [List.filterMap_cons_some hko, List.contains_cons]
        congr 1
        have hd : dupW a ws = (wordAt a 1 == wordAt ws 1 && wordAt a 2 == wordAt ws 2) := by
          unfold dupW; rw [ha, hw]; simp
        rw [hd, Bool.eq_iff_iff]
        simp only [Bool.and_eq_true, beq_iff_eq]
        exact (mask_key hm hk).symm
    · have hko : keyOf ts a = none := by unfold keyOf; rw [if_neg ha]
      have hd : dupW a ws = false := by
        have : (wordAt a 0 == wMask) = false := by simpa using ha
        unfold dupW; rw [this]; rfl
      rw [List.filterMap_cons_none hko, hd, Bool.false_or]
/-- Words of rules. -/
def total : List (List UInt8) → Nat
  | [] => 0
  | p :: r => (spl 32 p).length + total r
theorem law_eq {ts : List (List UInt8 × List Bool)} (hok : TabsOk ts) : ∀ (ps : List (List UInt8)) (n : Nat) (ls : List (List (List UInt8))), n ≤ 60 → (∀ a ∈ ls, ruleR ts a = true) → lawR ts n ls ps = (lawGo ts (ls.filterMap (keyOf ts)) ps && decide (n + total ps ≤ 60)) := by
  intro ps
  induction ps with
  | nil => intro n ls hn _; simp [lawR, lawGo, total, hn]
  | cons p r ih =>
    intro n ls hn h
    rw [lawR, lawGo, total]
    generalize hws : spl 32 p = ws
    cases hr : ruleR ts ws with
    | false =>
      have hk : ruleK ts (ls.filterMap (keyOf ts)) ws = none := by
        unfold ruleK
        by_cases h1 : wordAt ws 0 = wAllow
        · rw [if_pos h1, ← rule_allow h1, hr]
        · rw [if_neg h1]
          by_cases h2 : wordAt ws 0 = wMask
          · rw [if_pos h2]
            rw [rule_mask hok h2] at hr
            cases hm : maskP ts ws with
            | none => rfl
            | some k => rw [hm] at hr; cases hr
          · rw [if_neg h2]
      rw [hk]; rfl
    | true =>
      by_cases hle : n + ws.length ≤ 60
      · have hi := ih (n + ws.length) (ls ++ [ws]) hle (by
          intro a ha
          rcases List.mem_append.1 ha with ha | ha
          · exact h a ha
          · simp at ha; subst ha; exact hr)
        rw [hi, List.filterMap_append]
        have e60 : (n + ws.length + total r ≤ 60) ↔ (n + (ws.length + total r) ≤ 60) := by omega
        simp only [e60, hle, decide_true, Bool.and_true, Bool.true_and]
        by_cases h1 : wordAt ws 0 = wAllow
        · have hk : ruleK ts (ls.filterMap (keyOf ts)) ws = some none := by
            unfold ruleK
            rw [if_pos h1, ← rule_allow h1, hr]
          have hnm : (wordAt ws 0 == wMask) = false := by rw [h1]; decide
          have hd : (ls.any fun a => dupW a ws) = false := by
            rw [List.any_eq_false]
            intro a _
            unfold dupW
            rw [hnm]; simp
          have hko : keyOf ts ws = none := by unfold keyOf; rw [if_neg (by rw [h1]; decide)]
          rw [hk, hd, List.filterMap_cons_none hko]
          simp
        · by_cases h2 : wordAt ws 0 = wMask
          · have hr2 := hr
            rw [rule_mask hok h2] at hr2
            cases hm : maskP ts ws with
            | none => rw [hm] at hr2; cases hr2
            | some k =>
              have hko : keyOf ts ws = some k := by unfold keyOf; rw [if_pos h2, hm]
              have hk : ruleK ts (ls.filterMap (keyOf ts)) ws = (if (ls.filterMap (keyOf ts)).contains k then none else some (some k)) := by
                unfold ruleK
                rw [if_neg h1, if_pos h2, hm]
              rw [hk, dup_key hok h2 hm ls h, List.filterMap_cons_some hko, List.filterMap_nil]
              cases (ls.filterMap (keyOf ts)).contains k <;> simp
          · rw [rule_else h1 h2] at hr; cases hr
      · have e1 : decide (n + ws.length ≤ 60) = false := decide_eq_false hle
        have e2 : decide (n + (ws.length + total r) ≤ 60) = false := decide_eq_false (by omega)
        rw [e1, e2]
        simp
theorem total_spl (l : List UInt8) : total (spl 59 l) = l.count 32 + l.count 59 + 1 := by
  induction l with
  | nil => rfl
  | cons x xs ih =>
    rw [spl]
    by_cases hx : x = 59
    · subst hx
      rw [if_pos rfl, total, ih, spl_length]
      simp
      omega
    · rw [if_neg hx]
      cases hs : spl 59 xs with
      | nil => exact absurd hs (spl_ne_nil 59 xs)
      | cons h t =>
        rw [hs, total, spl_length] at ih
        simp only [total, spl_length]
        rw [List.count_cons_of_ne hx]
        rw [List.count_cons, List.count_cons]
        omega
theorem lawNum_eq (a b : List UInt8) : lawNum a b = lawNumD a b := by
  unfold lawNum lawNumD
  cases hs : schemaP a with
  | none => rfl
  | some ts =>
    have e : lawP ts b = lawD ts b := by
      unfold lawP lawD
      rw [law_eq (schemaP_tabs hs) _ 0 [] (by omega) (by simp), total_spl, Bool.and_comm]
      have : (0 + (b.count 32 + b.count 59 + 1) ≤ 60) ↔ (b.count 32 + b.count 59 < 60) := by omega
      simp only [this, List.filterMap_nil]
    simp only [e]
    cases lawD ts b <;> rfl
end Go.Proofs.YtnpjldffciociaaGreatDoor
namespace Go.Proofs.YtnpjldffciociaaGreatDoor
open Go.RowKit

set_option maxRecDepth 10000 in
theorem num_any (n : Int) (w : World) : Calls Tryz.prog 35 #[.int .i64 n] w fun e w' => e = .returned (.int .i64 n) ∧ w' = w := by
  go_enter Tryz.func35, Tryz.ntmps35
  go_wp2
  go_ret
  exact ⟨rfl, rfl⟩
set_option maxRecDepth 10000 in
set_option maxHeartbeats 1000000 in
theorem rules_walk (a b : ByteArray) (n : Int) (w : World)
    (h1 : Calls Tryz.prog 36 #[.string a, .string b] w fun e w' => e = .returned (.int .i64 n) ∧ Below w.heap.size w w')
    (h2 : ∀ w1, Calls Tryz.prog 37 #[.string a, .string b] w1 fun e w' => e = .returned (.int .i64 n) ∧ Below w1.heap.size w1 w') :
    Calls Tryz.prog 14 #[.string a, .string b] w fun e w' => e = .returned (.bool true) ∧ Below w.heap.size w w' := by
  have hn := num_any
  go_enter Tryz.func14, Tryz.ntmps14
  go_wp2_with (first
    | (go_at_call 36; refine h1.mono ?_; rintro e w1 ⟨rfl, hb1⟩)
    | (go_at_call 37; refine (h2 _).mono ?_; rintro e w2 ⟨rfl, hb2⟩)
    | (go_at_call 35; refine (hn _ _).mono ?_; rintro e w' ⟨rfl, hw⟩; obtain rfl := hw.symm))
  go_ret
  exact ⟨by first | rfl | simp, hb1.trans (hb2.mono hb1.size)⟩
set_option maxRecDepth 10000 in
set_option maxHeartbeats 1000000 in
theorem ruled_walk (a b : ByteArray) (w : World)
    (h1 : Calls Tryz.prog 14 #[.string a, .string b] w fun e w' => e = .returned (.bool true) ∧ Below w.heap.size w w') :
    Calls Tryz.prog 4 #[.string a, .string b] w fun e w' => e = .returned (.bool true) ∧ Below w.heap.size w w' := by
  go_enter Tryz.func4, Tryz.ntmps4
  go_wp2_with (go_at_call 14; refine h1.mono ?_; rintro e w1 ⟨rfl, hb1⟩)
  go_ret
  exact ⟨rfl, hb1⟩
/-- RULED, AT EVERY TWO TEXTS OF SIZE. -/
theorem ruled_any (a b : ByteArray) (w : World) (ha : a.size ≤ 1048576) (hb : b.size ≤ 1048576) (hg : Glob w) :
    Calls Tryz.prog 4 #[.string a, .string b] w fun e w' => e = .returned (.bool true) ∧ Below w.heap.size w w' := by
  refine ruled_walk a b w (rules_walk a b (lawNum a.data.toList b.data.toList) w (checkLaw_any a b w ha hb hg) fun w1 => ?_)
  rw [lawNum_eq]
  exact ref_checkLaw a b w1 ha hb
end Go.Proofs.YtnpjldffciociaaGreatDoor
namespace Go.Proofs.YtnpjldffciociaaGreatDoor
open Go.ChangeShapes Go.WideShapes Go.ChangeAt Go.RowKit

theorem ru_own : ownKnob Tryz.prog.godebug = none := by kernel_rfl
theorem ru_et : Tryz.prog.globalNamed "errors.errorType" = some 0 := by kernel_rfl
theorem some_two {α : Type} {x : Option α} {a b : α} (h : x = some a) (h2 : x = some b) : a = b := Option.some.inj (h.symm.trans h2)
theorem ru_size : Tryz.prog.types.size = 611 := by kernel_rfl
theorem ru_gsize : Tryz.prog.globals.size = 9 := by kernel_rfl
theorem ru_oneRow : ((List.range 611).filter fun t => Tryz.prog.rowNamed t [101, 114, 114, 111, 114]) = [100] := by kernel_rfl
theorem ru_gS : Tryz.prog.globalNamed "strconv.ErrSyntax" = some 7 := by kernel_rfl
theorem ru_gR : Tryz.prog.globalNamed "strconv.ErrRange" = some 8 := by kernel_rfl
theorem ru_gST : (Tryz.prog.globals[7]?).map (·.type) = some 100 := by kernel_rfl
theorem ru_gRT : (Tryz.prog.globals[8]?).map (·.type) = some 100 := by kernel_rfl
theorem ru_cellsE : Tryz.prog.cellsOf 553 = 1 := by kernel_rfl
theorem ru_cells9 : Tryz.prog.cellsOf 9 = 1 := by kernel_rfl

/-- WHAT THE ROW's LIST AND THE WORLD's SHAPE GIVE. -/
theorem glob_of {W : World} (h : laidMetH Tryz.prog Rows.ruledUptoRow.laid W) (hS : W.ShapedOpen Tryz.prog) : Glob W := by
  obtain ⟨hl0, hh0⟩ := h
  have hl : laidMet Tryz.prog [_, _, _, _, _, _, _] W := hl0
  have hh : handlesMet Tryz.prog [_] W := hh0
  have hR := hl.tail.tail.tail.tail
  obtain ⟨a0, s0, hv0, _⟩ := laid_sentinel hR ru_gR ru_gRT Tryz.underlying100 (fun u h => typeName_ptr_named (nm := "errors.errorString") (by kernel_rfl) (by kernel_rfl) (by decide) u (h.trans (by first | kernel_rfl | decide))) Tryz.underlying551 Tryz.underlying553 rfl rfl Tryz.underlying9 ru_cellsE ru_cells9
  obtain ⟨a1, s1, hv1, _⟩ := laid_sentinel hR.tail ru_gS ru_gST Tryz.underlying100 (fun u h => typeName_ptr_named (nm := "errors.errorString") (by kernel_rfl) (by kernel_rfl) (by decide) u (h.trans (by first | kernel_rfl | decide))) Tryz.underlying551 Tryz.underlying553 rfl rfl Tryz.underlying9 ru_cellsE ru_cells9
  refine ⟨?_, ?_, ⟨_, _, by simpa using World.var?_cell ru_gS hv1 0⟩, ⟨_, _, by simpa using World.var?_cell ru_gR hv0 0⟩, ?_⟩
  · obtain ⟨name, u, ty, e1, e2, e3, e4, e5⟩ := hh _ (List.mem_singleton.2 rfl)
    have en : name = [101, 114, 114, 111, 114] := (Option.some.inj e1).symm
    subst en
    obtain rfl := some_two (a := 316) (by kernel_rfl) e2
    have hm : ty ∈ (List.range 611).filter fun t => Tryz.prog.rowNamed t [101, 114, 114, 111, 114] := List.mem_filter.2 ⟨List.mem_range.2 (by rw [← ru_size]; exact e3), e4⟩
    rw [ru_oneRow] at hm
    obtain rfl := List.mem_singleton.1 hm
    have ht : typeHandle Tryz.prog 100 = .pointer (some ⟨9, 100, none⟩) := by kernel_rfl
    rw [ht] at e5
    simpa using World.var?_cell ru_et e5 0
  · exact cell_of_shapedOpen_int (g := 1) (t := 3) (zero := #[.int .i64 0]) hS (by rw [ru_gsize]; decide) (by kernel_rfl) rfl (by kernel_rfl) (by kernel_rfl) Tryz.underlying3
  · obtain ⟨o, _, ho, _⟩ := hS.2 9 (by rw [ru_gsize]; decide) (of_decide_eq_true (by kernel_rfl))
    have := (Array.getElem?_eq_some_iff.1 ho).1
    omega

set_option maxRecDepth 100000 in
theorem ruled_contract (H : Type) (enc : TypeId × Value → H) (W : World) (base : Nat) (args : Array Value) (ds gs : List (DataW H)) (before : List MemPlace)
    (hval : ∀ (j : Nat) t v, Tryz.f4.params[j]? = some t → args[j]? = some v → Value.okWide Tryz.prog W .any base t v)
    (hW : DataW.Whole enc Tryz.prog Tryz.f4.params.toList Rows.ruledSpec.vars false W args.toList ds gs before)
    (hk : Rows.uptoSmall H (ds ++ gs) = true) (hL : laidMetH Tryz.prog Rows.ruledUptoRow.laid W) (hS : W.ShapedOpen Tryz.prog) :
    Calls Tryz.prog 4 args W fun e W' => ∃ v, e = .returned v ∧ Rows.ruledSpec.post enc Tryz.prog Tryz.f4 false true false false W args v W' := by
  have hW' := hW
  obtain ⟨p, q, hA0, hV, rfl, hfz, hnd⟩ := hW
  have hA : DataW.TrodAll enc Tryz.prog W 0 (fun _ => true) true Tryz.f4.params.toList args.toList ds p := hA0
  rw [Tryz.params4] at hA hval
  obtain ⟨v0, vs0, d0, ds0, p0, q0, hargs, rfl, rfl, h0, r0⟩ := trodAll_cons hA
  obtain ⟨v1, vs1, d1, ds1, p1, q1, rfl, rfl, rfl, h1, r1⟩ := trodAll_cons r0
  obtain ⟨rfl, rfl, rfl⟩ := trodAll_nil r1
  obtain rfl : args = #[v0, v1] := by cases args; simp_all
  obtain ⟨rfl, rfl⟩ := trodVars_none hV
  obtain ⟨s0, rfl, rfl, rfl, w0⟩ := Go.ChangeMaps.open_string Tryz.underlying9 (hval 0 9 v0 rfl rfl) h0
  obtain ⟨s1, rfl, rfl, rfl, w1⟩ := Go.ChangeMaps.open_string Tryz.underlying9 (hval 1 9 v1 rfl rfl) h1
  clear hA0 hval hA
  have hk2 := of_decide_eq_true hk
  simp only [List.append_nil, Rows.uptoBulkAll, Rows.uptoBulk] at hk2
  simp only [List.append_nil] at hW'
  have hz0 : s0.size ≤ 1048576 := by
    have : s0.data.toList.length ≤ 1048576 := by omega
    simpa using this
  have hz1 : s1.size ≤ 1048576 := by
    have : s1.data.toList.length ≤ 1048576 := by omega
    simpa using this
  refine (ruled_any s0 s1 W hz0 hz1 (glob_of hL hS)).mono fun e W' ⟨he, hb⟩ => ?_
  subst he
  refine ⟨_, rfl, ?_⟩
  refine ⟨_, _, _, [], [] ++ ([] ++ []), [], hW', ?_, ?_, rfl, hb.frame _, fun h => by cases h⟩
  · exact trodAll_mk1 (shut_bool Tryz.underlying4 true)
  · exact trodAll_cons_mk (Go.ChangeMaps.shut_string Tryz.underlying9 w0) (trodAll_cons_mk (Go.ChangeMaps.shut_string Tryz.underlying9 w1) trodAll_mk0)
end Go.Proofs.YtnpjldffciociaaGreatDoor
