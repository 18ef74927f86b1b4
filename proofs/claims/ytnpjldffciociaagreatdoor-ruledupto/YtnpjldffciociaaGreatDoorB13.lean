import Derived.Test.YtnpjldffciociaaGreatDoorB06
import Derived.WalkSmall
import Derived.Deep.RegionHeld3
import Derived.Deep.AppendLies
import Derived.Deep.RegionLaw
import Derived.BigRegion
import Derived.Deep.DrawnRows
namespace Go.Proofs.YtnpjldffciociaaGreatDoor
open Go.RowKit
attribute [local go_sem ↓] Go.wp_at_zero Go.wp_at_succ

abbrev sInt : List UInt8 := [105, 110, 116]
abbrev sText : List UInt8 := [116, 101, 120, 116]
def isType (t : List UInt8) : Bool := t == sInt || t == sText
/-- A table's name and its columns. -/
def tableOf (part : List UInt8) : Option (List UInt8 × List Bool) :=
  match spl 32 part with
  | [] => none
  | n :: tys => if isNameL n && decide (1 ≤ tys.length) && decide (tys.length ≤ 5) && tys.all isType then some (n, tys.map (· == sText)) else none
def schemaGo (acc : List (List UInt8 × List Bool)) : List (List UInt8) → Option (List (List UInt8 × List Bool))
  | [] => some acc
  | p :: r =>
    match tableOf p with
    | none => none
    | some t => if (findT acc t.1).isSome then none else schemaGo (acc ++ [t]) r
/-- The tables of a schema. -/
def schemaP (l : List UInt8) : Option (List (List UInt8 × List Bool)) :=
  match schemaGo [] (spl 59 l) with
  | none => none
  | some ts => if ts.length ≤ 6 then some ts else none

theorem owns_below {w w' : World} {base : Nat} {e : TypeId} {size : Nat} {v : Value} {n : Nat} {xs : List Value} (h : w.ownsRow base e size v n xs) (hb : Below w.heap.size w w') : w'.ownsRow base e size v n xs := by
  obtain ⟨hl, ⟨rfl, rfl⟩ | ⟨g, cap, cur, rfl, hb1, hh, hn, hm, hs, ht⟩⟩ := h
  · exact ⟨hl, .inl ⟨rfl, rfl⟩⟩
  · refine ⟨hl, .inr ⟨g, cap, cur, rfl, hb1, ?_, hn, hm, hs, ht⟩⟩
    rw [hb.block g (Array.getElem?_eq_some_iff.1 hh).1]; exact hh

/-- The rows of tables: each one's name, and where its types lie. -/
def flatT (ts : List (List UInt8 × List Bool)) (tvs : List Value) : List Value := (ts.zip tvs).flatMap fun p => [.string (bs p.1.1), p.2]

/-- The tables as they are being made. -/
def TabsOwn (w : World) (base : Nat) (v : Value) (ts : List (List UInt8 × List Bool)) : Prop :=
  ∃ tvs : List Value, tvs.length = ts.length ∧ w.ownsRow base 189 2 v ts.length (flatT ts tvs) ∧
    ∀ (j : Nat) (t : List UInt8 × List Bool) (tv : Value), ts[j]? = some t → tvs[j]? = some tv → w.ownsRow base 4 1 tv t.2.length (t.2.map Value.bool)

theorem TabsOwn.below {w w' : World} {base : Nat} {v : Value} {ts : List (List UInt8 × List Bool)} (h : TabsOwn w base v ts) (hb : Below w.heap.size w w') : TabsOwn w' base v ts := by
  obtain ⟨tvs, hl, ho, hr⟩ := h
  exact ⟨tvs, hl, owns_below ho hb, fun j t tv h1 h2 => owns_below (hr j t tv h1 h2) hb⟩

theorem flat_get : ∀ (ts : List (List UInt8 × List Bool)) (tvs : List Value) (j : Nat) (t : List UInt8 × List Bool) (tv : Value), ts[j]? = some t → tvs[j]? = some tv →
    (flatT ts tvs)[j * 2]? = some (.string (bs t.1)) ∧ (flatT ts tvs)[j * 2 + 1]? = some tv := by
  intro ts
  induction ts with
  | nil => intro tvs j t tv h; simp at h
  | cons a r ih =>
    intro tvs j t tv h1 h2
    cases tvs with
    | nil => simp at h2
    | cons b s =>
      cases j with
      | zero => simp at h1 h2; subst h1 h2; simp [flatT]
      | succ j =>
        simp at h1 h2
        have := ih s j t tv h1 h2
        simp only [flatT, List.zip_cons_cons, List.flatMap_cons] at this ⊢
        have e1 : (j + 1) * 2 = j * 2 + 2 := by omega
        have e2 : j * 2 + 2 + 1 = j * 2 + 1 + 2 := by omega
        rw [e1, e2]
        simpa using this

theorem TabsOwn.reads {w : World} {base : Nat} {v : Value} {ts : List (List UInt8 × List Bool)} (h : TabsOwn w base v ts) : ReadsTabs Value.bool w v ts := by
  obtain ⟨tvs, hl, ⟨hlen, ho⟩, hr⟩ := h
  rcases ho with ⟨rfl, h0⟩ | ⟨g, cap, cur, rfl, hb1, hh, hn, hm, hs, ht⟩
  · exact ⟨none, 0, by rw [h0], fun i t hi => by rw [List.eq_nil_of_length_eq_zero h0] at hi; simp at hi⟩
  · refine ⟨_, cap, rfl, fun i t hi => ?_⟩
    have hil : i < ts.length := (List.getElem?_eq_some_iff.1 hi).1
    have htv : tvs[i]? = some (tvs[i]'(by omega)) := List.getElem?_eq_getElem _
    have hf := flat_get ts tvs i t _ hi htv
    rw [← ht] at hf
    rw [List.getElem?_take_of_lt (by omega), List.getElem?_take_of_lt (by omega)] at hf
    refine ⟨g, 0, tvs[i]'(by omega), rfl, (Array.getElem?_eq_some_iff.1 hh).1, ?_, ?_, Reads.of_owns (hr i t _ hi htv)⟩
    · rw [Nat.zero_add]; simp only [World.cell?, hh]; simpa using hf.1
    · rw [Nat.zero_add]; simp only [World.cell?, hh]; simpa using hf.2

theorem TabsOwn.nil (w : World) (base : Nat) : TabsOwn w base (.slice none 0 0) [] := ⟨[], rfl, World.ownsRow_nil _ _ _ _, fun j t tv h => by simp at h⟩

theorem flat_snoc (ts : List (List UInt8 × List Bool)) (tvs : List Value) (h : tvs.length = ts.length) (t : List UInt8 × List Bool) (tv : Value) : flatT (ts ++ [t]) (tvs ++ [tv]) = flatT ts tvs ++ [.string (bs t.1), tv] := by
  unfold flatT
  rw [List.zip_append (by omega)]
  simp

/-- Two rows of other element types do not share a block. -/
theorem owns_apart {w : World} {b1 b2 : Nat} {e1 e2 : TypeId} {s1 s2 : Nat} {v1 v2 : Value} {n1 n2 : Nat} {x1 x2 : List Value} (h1 : w.ownsRow b1 e1 s1 v1 n1 x1) (h2 : w.ownsRow b2 e2 s2 v2 n2 x2) (hne : e1 ≠ e2) : v1.ownBlock = none ∨ v1.ownBlock ≠ v2.ownBlock := by
  rcases h1.2 with ⟨rfl, _⟩ | ⟨g1, cap1, cur1, rfl, _, hh1, _⟩
  · left; rfl
  · right
    rcases h2.2 with ⟨rfl, _⟩ | ⟨g2, cap2, cur2, rfl, _, hh2, _⟩
    · simp [Value.ownBlock]
    · simp only [Value.ownBlock, ne_eq, Option.some.injEq]
      intro e
      rw [e, hh2] at hh1
      simp at hh1
      exact hne hh1.2.symm

/-- One table more. -/
theorem TabsOwn.grow2 {w w' : World} {base : Nat} {v v' tv : Value} {ts : List (List UInt8 × List Bool)} {t : List UInt8 × List Bool} {tvs : List Value} (hl : tvs.length = ts.length)
    (hr : w.ownsRow base 189 2 v ts.length (flatT ts tvs)) (hrs : ∀ (j : Nat) (t : List UInt8 × List Bool) (tv : Value), ts[j]? = some t → tvs[j]? = some tv → w.ownsRow base 4 1 tv t.2.length (t.2.map Value.bool))
    (ht : w.ownsRow base 4 1 tv t.2.length (t.2.map Value.bool))
    (hg : w.grownBy w' v.ownBlock) (ho : w'.ownsRow base 189 2 v' (ts.length + 1) (flatT ts tvs ++ [.string (bs t.1), tv])) : TabsOwn w' base v' (ts ++ [t]) := by
  refine ⟨tvs ++ [tv], by simp [hl], ?_, ?_⟩
  · rw [List.length_append, flat_snoc ts tvs hl]
    exact ho
  · intro j t' tv' h1 h2
    by_cases hj : j < ts.length
    · rw [List.getElem?_append_left hj] at h1
      rw [List.getElem?_append_left (by omega)] at h2
      exact (hrs j t' tv' h1 h2).kept hg (owns_apart (hrs j t' tv' h1 h2) hr (by decide))
    · have e1 : j = ts.length := by
        have := (List.getElem?_eq_some_iff.1 h1).1
        simp at this; omega
      subst e1
      rw [List.getElem?_append_right (Nat.le_refl _)] at h1
      rw [List.getElem?_append_right (by omega)] at h2
      simp at h1
      simp [hl] at h2
      subst h1 h2
      exact ht.kept hg (owns_apart ht hr (by decide))
theorem owns_base {w : World} {b b' : Nat} {e : TypeId} {size : Nat} {v : Value} {n : Nat} {xs : List Value} (h : w.ownsRow b e size v n xs) (hb : b' ≤ b) : w.ownsRow b' e size v n xs := by
  obtain ⟨hl, ⟨rfl, rfl⟩ | ⟨g, cap, cur, rfl, hb1, hr⟩⟩ := h
  · exact ⟨hl, .inl ⟨rfl, rfl⟩⟩
  · exact ⟨hl, .inr ⟨g, cap, cur, rfl, Nat.le_trans hb hb1, hr⟩⟩
theorem owns_one {w : World} {b : Nat} {e : TypeId} {size : Nat} {v : Value} {n : Nat} {xs : List Value} (h : w.ownsRow b e size v n xs) : v.oneCell' = true := by
  obtain ⟨_, ⟨rfl, _⟩ | ⟨g, cap, cur, rfl, _⟩⟩ := h <;> rfl
end Go.Proofs.YtnpjldffciociaaGreatDoor
namespace Go.Proofs.YtnpjldffciociaaGreatDoor
open Go.RowKit
attribute [local go_sem ↓] Go.wp_at_zero Go.wp_at_succ

theorem Tryz.infoTab : (Tryz.prog.info? 189).map (fun i => (i.zero, i.size, i.bytes)) = some (some (.agg #[.string ByteArray.empty, .slice none 0 0]), 2, 40) := by kernel_rfl

theorem ret_vb {v : Value} {a b : Bool} (h : a = b) : Ending.returned (.tuple #[v, .bool a]) = .returned (.tuple #[v, .bool b]) := by rw [h]

theorem split_cons (p : List UInt8) (w : World) (hp : p.length ≤ 1048576) (n0 : List UInt8) (tys : List (List UInt8)) (h : spl 32 p = n0 :: tys) :
    Calls Tryz.prog 103 #[.string (bs p), .int .u8 32] w fun e w' => ∃ bw capw, e = .returned (.slice (some ⟨bw, 0, none⟩) (tys.length + 1) capw) ∧ w'.cell? ⟨bw, 0, none⟩ = some (.string (bs n0)) ∧
      (∀ j, j < tys.length → w'.cell? ⟨bw, j + 1, none⟩ = some (.string (bs (tys.getD j [])))) ∧ bw < w'.heap.size ∧ Below w.heap.size w w' := by
  have hsp := split_any (bs p) 32 w (by simp; omega)
  rw [bs_toList, h] at hsp
  refine hsp.mono ?_
  rintro e w' ⟨v, rfl, ho, hb⟩
  have hr := Reads.of_owns ho
  obtain ⟨_, ⟨rfl, h0⟩ | ⟨g, cap, cur, rfl, hb1, hh, hn, hm, hs, ht⟩⟩ := ho
  · simp at h0
  · obtain ⟨a, cap', e1, hc⟩ := hr
    simp only [Value.slice.injEq] at e1
    obtain ⟨rfl, -, rfl⟩ := e1
    refine ⟨g, cap, by simp, ?_, ?_, (Array.getElem?_eq_some_iff.1 hh).1, hb⟩
    · obtain ⟨b, off, e2, _, hcell⟩ := hc 0 (.string (bs n0)) (by simp)
      simp only [Option.some.injEq, Addr.mk.injEq] at e2
      obtain ⟨rfl, rfl, -⟩ := e2
      simpa using hcell
    · intro j hj
      obtain ⟨b, off, e2, _, hcell⟩ := hc (j + 1) (.string (bs (tys.getD j []))) (by simp [List.getD, hj])
      simp only [Option.some.injEq, Addr.mk.injEq] at e2
      obtain ⟨rfl, rfl, -⟩ := e2
      simpa using hcell

theorem go_bad1 {acc : List (List UInt8 × List Bool)} {p n0 : List UInt8} {tys r : List (List UInt8)} (h : spl 32 p = n0 :: tys) (hb : isNameL n0 = false) : schemaGo acc (p :: r) = none := by
  simp [schemaGo, tableOf, h, hb]
theorem go_bad3 {acc : List (List UInt8 × List Bool)} {p n0 : List UInt8} {tys r : List (List UInt8)} (h : spl 32 p = n0 :: tys) (hb : tys.length < 1 ∨ 5 < tys.length) : schemaGo acc (p :: r) = none := by
  have : (isNameL n0 && decide (1 ≤ tys.length) && decide (tys.length ≤ 5) && tys.all isType) = false := by
    rcases hb with hb | hb
    · have : ¬ 1 ≤ tys.length := by omega
      simp [this]
    · have : ¬ tys.length ≤ 5 := by omega
      simp [this]
  simp only [schemaGo, tableOf, h, this, Bool.false_eq_true, if_false]
theorem go_bad4 {acc : List (List UInt8 × List Bool)} {p n0 : List UInt8} {tys r : List (List UInt8)} (h : spl 32 p = n0 :: tys) (hb : tys.all isType = false) : schemaGo acc (p :: r) = none := by
  simp [schemaGo, tableOf, h, hb]
theorem go_bad2 {acc : List (List UInt8 × List Bool)} {p n0 : List UInt8} {tys r : List (List UInt8)} (h : spl 32 p = n0 :: tys) {j : Nat} (hb : findT acc n0 = some j) : schemaGo acc (p :: r) = none := by
  simp only [schemaGo, tableOf, h]
  split
  · rfl
  · rename_i t ht
    split at ht
    · cases ht; simp [hb]
    · cases ht
theorem go_good {acc : List (List UInt8 × List Bool)} {p n0 : List UInt8} {tys r : List (List UInt8)} (h : spl 32 p = n0 :: tys) (h1 : isNameL n0 = true) (h2 : findT acc n0 = none) (h3 : 1 ≤ tys.length) (h5 : tys.length ≤ 5) (h4 : tys.all isType = true) :
    schemaGo acc (p :: r) = schemaGo (acc ++ [(n0, tys.map (· == sText))]) r := by
  simp [schemaGo, tableOf, h, h1, h2, h3, h5, h4]

theorem own_ge {w : World} {base : Nat} {e : TypeId} {size : Nat} {v : Value} {n : Nat} {xs : List Value} (h : w.ownsRow base e size v n xs) {k : Nat} (hk : v.ownBlock = some k) : base ≤ k := by
  rcases h.2 with ⟨rfl, _⟩ | ⟨g, cap, cur, rfl, hb, _⟩
  · simp [Value.ownBlock] at hk
  · simp [Value.ownBlock] at hk; omega
theorem far_of {w : World} {base : Nat} {e : TypeId} {size : Nat} {v : Value} {n : Nat} {xs : List Value} (h : w.ownsRow base e size v n xs) {k : Nat} (hk : k < base) : some k ≠ v.ownBlock := by
  intro e
  have := own_ge h e.symm
  omega

/-- One column more of a table in the making. -/
theorem col_step {wa wi w5 : World} {n0 : List UInt8} {tv : Value} {n gg cap : Nat} {xs : List Value} {u : Value} {o : Obj}
    (hc0 : wi.cell? ⟨wa.heap.size, 0, none⟩ = some (.string (bs n0))) (hc1 : wi.cell? ⟨wa.heap.size, 1, none⟩ = some tv) (hf1 : wi.frozen? ⟨wa.heap.size, 1, none⟩ = false)
    (hot : wi.ownsRow (wa.heap.size + 1) 4 1 tv n xs) (hbi : Below wa.heap.size wa wi) (hTl : wa.heap.size < wi.heap.size)
    (ho5 : w5.ownsRow (wa.heap.size + 1) 4 1 (.slice (some ⟨gg, 0, none⟩) (n + 1) cap) (n + 1) (xs ++ [u])) (hg : ((wi.alloc o).drew).grownBy w5 tv.ownBlock) (v' : Value) (hv' : v' = .slice (some ⟨gg, 0, none⟩) (n + 1) cap) :
    (w5.setCell ⟨wa.heap.size, 1, none⟩ v').cell? ⟨wa.heap.size, 0, none⟩ = some (.string (bs n0)) ∧ (w5.setCell ⟨wa.heap.size, 1, none⟩ v').cell? ⟨wa.heap.size, 1, none⟩ = some v' ∧ (w5.setCell ⟨wa.heap.size, 1, none⟩ v').frozen? ⟨wa.heap.size, 1, none⟩ = false ∧
    (w5.setCell ⟨wa.heap.size, 1, none⟩ v').ownsRow (wa.heap.size + 1) 4 1 v' (n + 1) (xs ++ [u]) ∧ Below wa.heap.size wa (w5.setCell ⟨wa.heap.size, 1, none⟩ v') ∧ wa.heap.size < (w5.setCell ⟨wa.heap.size, 1, none⟩ v').heap.size := by
  subst hv'
  have hne := far_of hot (Nat.lt_succ_self wa.heap.size)
  have k0 : w5.cell? ⟨wa.heap.size, 0, none⟩ = some (.string (bs n0)) := hg.cell (a := ⟨wa.heap.size, 0, none⟩) (by simp [World.cell?_alloc_past _ _ _ hTl, hc0]) hne
  have k1 : w5.cell? ⟨wa.heap.size, 1, none⟩ = some tv := hg.cell (a := ⟨wa.heap.size, 1, none⟩) (by simp [World.cell?_alloc_past _ _ _ hTl, hc1]) hne
  have hs5 : wi.heap.size + 1 ≤ w5.heap.size := by have := hg.size; simpa using this
  have hfr : w5.frozen? ⟨wa.heap.size, 1, none⟩ = false := by
    rw [hg.frozen_far _ (by simp; omega) hne]
    simp only [World.frozen?_drew]
    rw [World.frozen?_alloc_old _ _ _ (by simp; omega)]
    exact hf1
  refine ⟨?_, World.cell?_setCell_same _ _ _ k1, ?_, ownsRow_setCell_below ho5 (by simp) _, ?_, by simp; omega⟩
  · rw [World.cell?_setCell_other]
    · exact k0
    · simp
  · simpa using hfr
  · exact ((((hbi.alloc (by omega) o).drew).grown hg (by simp; omega) fun k hk => by have := own_ge hot hk; omega)).setCell (by simp) _

theorem grow_cell {wa wi w5 : World} {tv u : Value} {n i : Nat} {xs : List Value} {o : Obj} (hot : wi.ownsRow (wa.heap.size + 1) 4 1 tv n xs) (hTl : wa.heap.size < wi.heap.size) (hg : ((wi.alloc o).drew).grownBy w5 tv.ownBlock) (hc : wi.cell? ⟨wa.heap.size, i, none⟩ = some u) : w5.cell? ⟨wa.heap.size, i, none⟩ = some u :=
  hg.cell (a := ⟨wa.heap.size, i, none⟩) (by simp [World.cell?_alloc_past _ _ _ hTl, hc]) (far_of hot (Nat.lt_succ_self wa.heap.size))
theorem grow_frozen {wa wi w5 : World} {tv : Value} {n i : Nat} {xs : List Value} {o : Obj} (hot : wi.ownsRow (wa.heap.size + 1) 4 1 tv n xs) (hTl : wa.heap.size < wi.heap.size) (hg : ((wi.alloc o).drew).grownBy w5 tv.ownBlock) (hc : wi.frozen? ⟨wa.heap.size, i, none⟩ = false) : w5.frozen? ⟨wa.heap.size, i, none⟩ = false := by
  rw [hg.frozen_far _ (by simp; omega) (far_of hot (Nat.lt_succ_self wa.heap.size))]
  simp only [World.frozen?_drew]
  rw [World.frozen?_alloc_old _ _ _ (by simp; omega)]
  exact hc

theorem news_two {w : World} {a b : Value} {t : TypeId} (_u : Unit) : ∀ (j : Nat) y, [a, b][j]? = some y → (w.alloc (.cells #[a, b] t)).cell? ((⟨w.heap.size, 0, none⟩ : Addr).add j) = some y := by
  intro j y hj
  match j, hj with
  | 0, hj => simp at hj; subst hj; simp [Addr.add]
  | 1, hj => simp at hj; subst hj; simp [Addr.add]

set_option maxRecDepth 10000 in
set_option maxHeartbeats 8000000 in
theorem schema_any (s : ByteArray) (w : World) (hs : s.size ≤ 1048576) :
    Calls Tryz.prog 61 #[.string s] w fun e w' => (∃ v, e = .returned (.tuple #[v, .bool (schemaP s.data.toList).isSome]) ∧ (∀ ts, schemaP s.data.toList = some ts → ReadsTabs Value.bool w' v ts)) ∧ Below w.heap.size w w' := by
  obtain ⟨i0, hi0, hz0, hz1, hz2⟩ := info_parts Tryz.infoTab
  obtain ⟨i1, hi1, hy0, hy1, hy2⟩ := info_parts Tryz.infoBool
  have hsp := split_any s 59 w (by omega)
  have hlen := spl_length_le 59 s.data.toList
  have hml := spl_mem_length 59 s.data.toList
  have hl2 : s.data.toList.length ≤ 1048576 := by simpa using hs
  have hpl : (spl 59 s.data.toList).length ≤ 1048577 := by omega
  have HM : Hid (∀ x ∈ spl 59 s.data.toList, x.length ≤ 1048576) := Hid.mk fun x hx => Nat.le_trans (hml x hx) hl2
  obtain ⟨R, HR⟩ : ∃ R, Hid (schemaP s.data.toList = R) := exHid _
  rw [HR.out]
  have HS : Hid ((match schemaGo [] (spl 59 s.data.toList) with | none => none | some ts => if ts.length ≤ 6 then some ts else none) = R) := HR
  clear HR hlen hml hl2
  generalize spl 59 s.data.toList = ps at *
  go_enter Tryz.func61, Tryz.ntmps61
  go_wp2_with (go_at_call 103; refine hsp.mono ?_; rintro e w1 ⟨vp, rfl, hownp, hbp⟩)
  obtain ⟨ap, capp, rfl, hcellp⟩ := Reads.of_owns hownp
  rw [List.length_map]
  have HCP : Hid _ := hcellp
  clear hcellp hownp hsp
  go_loopw [4, 6] (fun u i wr => ∃ (k : Nat) (acc : List (List UInt8 × List Bool)), k ≤ ps.length ∧ acc.length = k ∧ i = .int .i64 k ∧ schemaGo [] ps = schemaGo acc (ps.drop k) ∧ TabsOwn wr w1.heap.size u acc ∧ Below w1.heap.size w1 wr) (fun _ i _ => ps.length - (intOf i).toNat)
  case atStart => exact ⟨0, [], Nat.zero_le _, rfl, rfl, rfl, TabsOwn.nil _ _, Below.refl _ _⟩
  case round =>
    obtain ⟨k, acc, hk, hal, rfl, hgo, htab, hbel⟩ := hrel
    have HG : Hid _ := hgo
    have HAL : Hid _ := hal
    clear hgo hal
    by_cases hlt : k < ps.length
    · obtain ⟨p, HP⟩ : ∃ p, Hid (ps[k] = p) := exHid _
      have hpl2 : p.length ≤ 1048576 := by rw [← HP.out]; exact HM.out _ (List.getElem_mem hlt)
      obtain ⟨bp, offp, rfl, hblp, hcp⟩ := HCP.out k (.string (bs p)) (by rw [List.getElem?_map, List.getElem?_eq_getElem hlt, HP.out]; rfl)
      rw [← hbel.cell (p := ⟨_, _, none⟩) hblp] at hcp
      have HD : Hid (schemaGo [] ps = schemaGo acc (p :: ps.drop (k + 1))) := by
        show _ = _
        rw [HG.out, List.drop_eq_getElem_cons hlt, HP.out]
      have hne := spl_ne_nil 32 p
      have hwl := spl_mem_length 32 p
      have hwn := spl_length_le 32 p
      obtain ⟨n0, tys, HW⟩ : ∃ n0 tys, Hid (spl 32 p = n0 :: tys) := by
        cases hh : spl 32 p with
        | nil => exact absurd hh hne
        | cons a b => exact ⟨a, b, Hid.mk rfl⟩
      have hsp2 := split_cons p wr hpl2 n0 tys HW.out
      rw [HW.out] at hwl hwn
      have hn0 : n0.length ≤ 1048576 := Nat.le_trans (hwl n0 (by simp)) hpl2
      have htl : tys.length ≤ 1048576 := by simp at hwn; omega
      clear hne hwl hwn
      have hnm := fun w => isName_any (bs n0) w (by simp [maxLen]; omega)
      have hfd := fun w h => find_any u4 acc (bs n0) w h (by rw [HAL.out]; omega)
      rw [bs_toList] at hnm hfd
      have hkb : k ≤ 1048577 := by omega
      have hbad : schemaGo acc (p :: ps.drop (k + 1)) = none → Hid (R = none) := fun h => Hid.mk (by
        have := HS.out
        rw [HD.out, h] at this
        exact this.symm)
      have hsz := hbel.size
      by_cases hq : isNameL n0 = false ∨ (∃ j, findT acc n0 = some j) ∨ tys.length < 1 ∨ 5 < tys.length
      · have hRN : Hid (R = none) := by
          rcases hq with h | ⟨j, h⟩ | h
          · exact hbad (go_bad1 HW.out h)
          · exact hbad (go_bad2 HW.out h)
          · exact hbad (go_bad3 HW.out h)
        clear hbad
        cases hnb : isNameL n0
        · rw [hnb] at hnm
          clear hq hnb
          go_wp2_with (first
            | (go_at_call 103; refine hsp2.mono ?_; rintro e wa ⟨bw, capw, rfl, hcw0, hcw, hbwl, hba⟩; have hcw' : Hid _ := hcw; clear hcw)
            | (go_at_call 104; refine (hnm _).mono ?_; rintro e w' ⟨rfl, hw⟩; obtain rfl := hw.symm)
            | (go_at_call 105; refine (hfd _ (htab.below hba).reads).mono ?_; rintro e w' ⟨rfl, hw⟩; obtain rfl := hw.symm))
          all_goals
            go_ret2
            refine ⟨⟨_, ret_vb (by rw [hRN.out]; rfl), ?_⟩, (hbp.trans (hbel.mono hbp.size)).trans (hba.mono (Nat.le_trans hbp.size hsz))⟩
            intro ts hts
            rw [hRN.out] at hts
            cases hts
        rw [hnb] at hnm
        cases hfb : findT acc n0
        case some j =>
          rw [hfb] at hfd
          simp only [idxOf] at hfd
          clear hq hnb hfb
          go_wp2_with (first
            | (go_at_call 103; refine hsp2.mono ?_; rintro e wa ⟨bw, capw, rfl, hcw0, hcw, hbwl, hba⟩; have hcw' : Hid _ := hcw; clear hcw)
            | (go_at_call 104; refine (hnm _).mono ?_; rintro e w' ⟨rfl, hw⟩; obtain rfl := hw.symm)
            | (go_at_call 105; refine (hfd _ (htab.below hba).reads).mono ?_; rintro e w' ⟨rfl, hw⟩; obtain rfl := hw.symm))
          all_goals
            go_ret2
            refine ⟨⟨_, ret_vb (by rw [hRN.out]; rfl), ?_⟩, (hbp.trans (hbel.mono hbp.size)).trans (hba.mono (Nat.le_trans hbp.size hsz))⟩
            intro ts hts
            rw [hRN.out] at hts
            cases hts
        rw [hfb] at hfd
        simp only [idxOf] at hfd
        rcases hq with h | ⟨j, h⟩ | h | h
        · rw [hnb] at h; cases h
        · rw [hfb] at h; cases h
        · clear hnb hfb
          go_wp2_with (first
            | (go_at_call 103; refine hsp2.mono ?_; rintro e wa ⟨bw, capw, rfl, hcw0, hcw, hbwl, hba⟩; have hcw' : Hid _ := hcw; clear hcw)
            | (go_at_call 104; refine (hnm _).mono ?_; rintro e w' ⟨rfl, hw⟩; obtain rfl := hw.symm)
            | (go_at_call 105; refine (hfd _ (htab.below hba).reads).mono ?_; rintro e w' ⟨rfl, hw⟩; obtain rfl := hw.symm))
          all_goals
            go_ret2
            refine ⟨⟨_, ret_vb (by rw [hRN.out]; rfl), ?_⟩, (hbp.trans (hbel.mono hbp.size)).trans (hba.mono (Nat.le_trans hbp.size hsz))⟩
            intro ts hts
            rw [hRN.out] at hts
            cases hts
        · clear hnb hfb
          go_wp2_with (first
            | (go_at_call 103; refine hsp2.mono ?_; rintro e wa ⟨bw, capw, rfl, hcw0, hcw, hbwl, hba⟩; have hcw' : Hid _ := hcw; clear hcw)
            | (go_at_call 104; refine (hnm _).mono ?_; rintro e w' ⟨rfl, hw⟩; obtain rfl := hw.symm)
            | (go_at_call 105; refine (hfd _ (htab.below hba).reads).mono ?_; rintro e w' ⟨rfl, hw⟩; obtain rfl := hw.symm))
          all_goals
            go_ret2
            refine ⟨⟨_, ret_vb (by rw [hRN.out]; rfl), ?_⟩, (hbp.trans (hbel.mono hbp.size)).trans (hba.mono (Nat.le_trans hbp.size hsz))⟩
            intro ts hts
            rw [hRN.out] at hts
            cases hts
      · obtain ⟨hnb, hfb, h1, h5⟩ : isNameL n0 = true ∧ findT acc n0 = none ∧ 1 ≤ tys.length ∧ tys.length ≤ 5 := by
          simp only [not_or, not_exists] at hq
          obtain ⟨g1, g2, g3, g4⟩ := hq
          refine ⟨by simpa using g1, ?_, by omega, by omega⟩
          cases hf : findT acc n0 with
          | none => rfl
          | some j => exact absurd hf (g2 j)
        rw [hnb] at hnm
        rw [hfb] at hfd
        simp only [idxOf] at hfd
        have HNB : Hid _ := hnb
        have HFB : Hid _ := hfb
        clear hq hnb hfb
        go_wp2_with (first
          | (go_at_call 103; refine hsp2.mono ?_; rintro e wa ⟨bw, capw, rfl, hcw0, hcw, hbwl, hba⟩; have hcw' : Hid _ := hcw; clear hcw)
          | (go_at_call 104; refine (hnm _).mono ?_; rintro e w' ⟨rfl, hw⟩; obtain rfl := hw.symm)
          | (go_at_call 105; refine (hfd _ (htab.below hba).reads).mono ?_; rintro e w' ⟨rfl, hw⟩; obtain rfl := hw.symm))
        have hszw := hba.size
        clear hnm hfd hsp2 hcp
        generalize wr = wo at *
        go_loopw [11] (fun i wi => ∃ (j : Nat) (tv : Value), 1 ≤ j ∧ j ≤ tys.length + 1 ∧ i = .int .i64 j ∧ wi.cell? ⟨wa.heap.size, 0, none⟩ = some (.string (bs n0)) ∧ wi.cell? ⟨wa.heap.size, 1, none⟩ = some tv ∧ wi.frozen? ⟨wa.heap.size, 1, none⟩ = false ∧
            wi.ownsRow (wa.heap.size + 1) 4 1 tv (j - 1) (((tys.take (j - 1)).map (· == sText)).map Value.bool) ∧ (tys.take (j - 1)).all isType = true ∧ Below wa.heap.size wa wi ∧ wa.heap.size < wi.heap.size) (fun i _ => tys.length + 1 - (intOf i).toNat)
        case atStart => exact ⟨1, _, Nat.le_refl _, by omega, rfl, by simp, by simp, by simp, World.ownsRow_nil _ _ _ _, rfl, (Below.refl _ _).alloc (Nat.le_refl _) _, by simp⟩
        case round =>
          obtain ⟨j, tv, hj1, hj2, rfl, hc0, hc1, hf1, hot, hty, hbi, hTl⟩ := hrel
          have HT : Hid _ := hty
          clear hty
          by_cases hjl : j < tys.length + 1
          · obtain ⟨x, HX⟩ : ∃ x, Hid (tys[j - 1]'(by omega) = x) := exHid _
            have hcx : wr.cell? ⟨bw, j, none⟩ = some (.string (bs x)) := by
              rw [hbi.cell (p := ⟨bw, j, none⟩) hbwl]
              have := hcw'.out (j - 1) (by omega)
              rw [show j - 1 + 1 = j by omega] at this
              rw [this, ← HX.out]
              simp [List.getD, show j - 1 < tys.length by omega]
            have hbs := bs_toList2
            have hj3 : j ≤ 6 := by omega
            by_cases hxt : isType x = true
            · have hxi : ((x == sInt) = true ∧ (x == sText) = false) ∨ ((x == sInt) = false ∧ (x == sText) = true) := by
                have : x = sInt ∨ x = sText := by simpa [isType] using hxt
                rcases this with rfl | rfl
                · left; exact ⟨rfl, rfl⟩
                · right; exact ⟨rfl, rfl⟩
              have HB : Hid ((((tys.take j).map (· == sText)).map Value.bool = ((tys.take (j - 1)).map (· == sText)).map Value.bool ++ [.bool (x == sText)]) ∧ (tys.take j).all isType = true) := by
                have e : tys.take j = tys.take (j - 1) ++ [x] := by
                  rw [← HX.out, ← List.take_succ_eq_append_getElem, show j - 1 + 1 = j by omega]
                refine ⟨by rw [e]; simp, ?_⟩
                rw [e, List.all_append, HT.out]
                simpa using hxt
              have hjm : (0 : Int) ≤ (j : Int) := by omega
              have hjn : (j : Int) < (tys.length : Int) + 1 := by omega
              have hfz : ∀ o, (wr.alloc o).frozen? ⟨wa.heap.size, 1, none⟩ = false := fun o => by
                rw [World.frozen?_alloc_old _ _ _ (by simp; omega)]; exact hf1
              clear hbad hxt HX
              rcases hxi with ⟨hx1, hx2⟩ | ⟨hx1, hx2⟩
              all_goals
                rw [hx2] at HB
                go_wp2
                first
                  | (go_region_law ((refine step_append_lies _ (by rfl) _ _ _ (by rfl) (wa.heap.size + 1) 4 i1 _ 1 1 Tryz.underlying117 hi1 hy0 hy1 hy2 rfl (by omega) tv (j - 1) _ (by rfl) ((hot.alloc _).drew) ⟨wr.heap.size, 0, none⟩ 1 1 [.bool _] (by rfl) (by rfl) (World.news_of_block (cs := #[.bool _]) (t := 4) (fr := (0, 0)) (heap_alloc_new wr _)) (by simp [Value.oneCell']) (by omega) (by unfold maxLen; omega) (by omega) (by simp; omega) (wr.heap.size + 1) (by simp) ?_; intro gg cap5 w5 hown5 hgrow hat hlt5; have CS := (col_step hc0 hc1 hf1 hot hbi hTl hown5 hgrow _ rfl); have hk1 : w5.cell? ⟨wa.heap.size, 1, none⟩ = some tv := (grow_cell hot hTl hgrow hc1); have hk2 : w5.frozen? ⟨wa.heap.size, 1, none⟩ = false := (grow_frozen hot hTl hgrow hf1); have CSH : Hid _ := CS; clear CS)))
                  | fail
                all_goals go_wp2
                all_goals
                  go_roundw
                  case rel =>
                    have hc := CSH.out
                    rw [show j - 1 + 1 = j by omega] at hc
                    obtain ⟨c1, c2, c3, c4, c5, c6⟩ := hc
                    exact ⟨j + 1, .slice (some ⟨gg, 0, none⟩) j cap5, by omega, by omega, by go_num, c1, c2, c3, by rw [Nat.add_sub_cancel, HB.out.1]; exact c4, by rw [Nat.add_sub_cancel]; exact HB.out.2, c5, c6⟩
                  case measure => simp [intOf]; omega
            · have hxi : (x == sInt) = false ∧ (x == sText) = false := by simpa [isType] using hxt
              obtain ⟨hx1, hx2⟩ := hxi
              have hRN : Hid (R = none) := hbad (go_bad4 HW.out (by
                rw [List.all_eq_false]
                exact ⟨tys[j - 1]'(by omega), List.getElem_mem _, by rw [HX.out]; simpa using hxt⟩))
              clear hbad hxt
              go_wp2
              go_ret2
              refine ⟨⟨_, ret_vb (by rw [hRN.out]; rfl), ?_⟩, ((hbp.trans (hbel.mono hbp.size)).trans (hba.mono (Nat.le_trans hbp.size hsz))).trans (hbi.mono (Nat.le_trans (Nat.le_trans hbp.size hsz) hszw))⟩
              intro ts hts
              rw [hRN.out] at hts
              cases hts
          · have hj : j = tys.length + 1 := by omega
            have hal2 : tys.all isType = true := by
              have := HT.out
              rwa [hj, Nat.add_sub_cancel, List.take_length] at this
            rw [hj, Nat.add_sub_cancel, List.take_length] at hot
            have HGOOD : Hid (schemaGo [] ps = schemaGo (acc ++ [(n0, tys.map (· == sText))]) (ps.drop (k + 1))) :=
              Hid.mk (HD.out.trans (go_good HW.out HNB.out HFB.out h1 h5 hal2))
            have hbwr : Below wo.heap.size wo wr := hba.trans (hbi.mono hszw)
            have htab2 := htab.below hbwr
            obtain ⟨tvs, htvl, htr, htrs⟩ := id htab2
            have hacc := HAL.out
            have hbase : w1.heap.size ≤ wr.heap.size := Nat.le_trans (Nat.le_trans hsz hszw) hbi.size
            have HT2 : Hid _ := htab2
            have HTRS : Hid _ := htrs
            have HOT : Hid _ := hot
            clear hbad htab htab2 htrs hal2 hot HT
            go_wp2_with (at_builtin; refine wpList_append_own _ rfl _ _ 114 rfl w1.heap.size 189 i0 _ 2 40 Tryz.underlying114 hi0 hz0 hz1 hz2 rfl (by decide) _ _ _ rfl (htr.alloc _) ⟨wr.heap.size, 0, none⟩ 1 1 [.string (bs n0), tv] rfl rfl (news_two ()) (by intro u hu; simp at hu; rcases hu with rfl | rfl; exact rfl; exact owns_one HOT.out) (by unfold maxLen; omega) (by omega) (by simp; omega) ?_; intro v6 w6 hown6 hgrow6 _)
            go_roundw
            case rel =>
              have hal3 : ∀ {o : Obj}, Below wr.heap.size wr (wr.alloc o) := fun {o} => (Below.refl _ _).alloc (Nat.le_refl _) o
              refine ⟨k + 1, acc ++ [(n0, tys.map (· == sText))], by omega, by simp [hacc], by go_num, HGOOD.out, ?_, ?_⟩
              · refine TabsOwn.grow2 (tv := tv) htvl (owns_below htr hal3) (fun j t tv h1 h2 => owns_below (HTRS.out j t tv h1 h2) hal3) (owns_base (owns_below ?_ hal3) (Nat.le_trans (Nat.le_trans hsz hszw) (Nat.le_succ wa.heap.size))) hgrow6 ?_
                · show wr.ownsRow _ _ _ tv (tys.map (· == sText)).length _
                  rw [List.length_map]; exact HOT.out
                · exact hown6
              · exact (((hbel.trans (hbwr.mono hsz)).alloc hbase _).grown hgrow6 (by simp; omega) fun q hq => own_ge htr hq)
            case measure => simp [intOf]; omega
    · have hd : ps.drop k = [] := List.drop_of_length_le (by omega)
      have hR : (if k ≤ 6 then some acc else none) = R := by
        have := HS.out
        rw [HG.out, hd] at this
        simp only [schemaGo] at this
        rw [HAL.out] at this
        exact this
      have hrd := htab.reads
      obtain ⟨a4, c4, rfl, _⟩ := id hrd
      have hkk := HAL.out
      have HRD : Hid _ := hrd
      clear hrd htab
      rw [hkk]
      by_cases h6 : k ≤ 6
      · rw [if_pos h6] at hR
        have HRR : Hid _ := hR
        clear hR hkk
        go_wp2
        go_ret2
        refine ⟨⟨.slice a4 k c4, ret_vb (by rw [← HRR.out]; simp; omega), ?_⟩, hbp.trans (hbel.mono hbp.size)⟩
        intro ts hts
        rw [← HRR.out] at hts
        cases hts
        rw [show k = acc.length from HAL.out.symm]
        exact HRD.out
      · rw [if_neg h6] at hR
        have HRR : Hid _ := hR
        clear hR hkk
        go_wp2
        go_ret2
        refine ⟨⟨.slice a4 k c4, ret_vb (by rw [← HRR.out]; simp; omega), ?_⟩, hbp.trans (hbel.mono hbp.size)⟩
        intro ts hts
        rw [← HRR.out] at hts
        cases hts
end Go.Proofs.YtnpjldffciociaaGreatDoor
