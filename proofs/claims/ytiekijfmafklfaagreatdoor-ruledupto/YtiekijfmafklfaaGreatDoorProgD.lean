import Derived.Test.YtiekijfmafklfaaGreatDoorProgC
namespace Go.Proofs.YtiekijfmafklfaaGreatDoor
open Go.RowKit

/-- What readTable answers. -/
def TableAns (w0 : Nat) (w : World) (o : Option (List UInt8 × List Bool)) (e : Ending) : Prop :=
  ∃ nm tv ev, e = .returned (.tuple #[.agg #[.string nm, tv], ev]) ∧ (∃ a n c, tv = .slice a n c) ∧ match o with
    | none => Err w 1 ev
    | some t => ev = .nilIface ∧ nm = bs t.1 ∧ w.ownsRow w0 83 1 tv t.2.length (t.2.map tcode)

theorem two_set {W : World} {h : Nat} {x y : Value} {a b : Value} (h0 : W.cell? ⟨h, 0, none⟩ = some a) (h1 : W.cell? ⟨h, 1, none⟩ = some b) :
    ((W.setCell ⟨h, 0, none⟩ x).setCell ⟨h, 1, none⟩ y).cell? ⟨h, 0, none⟩ = some x ∧ ((W.setCell ⟨h, 0, none⟩ x).setCell ⟨h, 1, none⟩ y).cell? ⟨h, 1, none⟩ = some y := by
  have k1 : (W.setCell ⟨h, 0, none⟩ x).cell? ⟨h, 1, none⟩ = some b := by
    rw [World.cell?_setCell_other]
    · exact h1
    · simp
  refine ⟨?_, World.cell?_setCell_same _ _ _ k1⟩
  rw [World.cell?_setCell_other]
  · exact World.cell?_setCell_same _ _ _ h0
  · simp

set_option maxRecDepth 10000 in
set_option maxHeartbeats 1000000 in
theorem rt_many (s : ByteArray) (w : World) (n : Nat) (hn : 5 < n) (hn2 : n ≤ 4194304) (hc : ∀ w, Calls Tryz.prog 21 #[.string s, .string ⟨#[32]⟩] w fun e w' => e = .returned (.int .i64 n) ∧ w' = w) :
    Calls Tryz.prog 24 #[.string s] w fun e w' => TableAns w.heap.size w' none e ∧ Below w.heap.size w w' := by
  go_enter Tryz.func24, Tryz.ntmps24
  go_wp2_with (first
    | (go_at_call 21; refine (hc _).mono ?_; rintro e w' ⟨rfl, hw⟩; obtain rfl := hw.symm)
    | (go_at_call 22; refine (schemaFault_any _ _).mono ?_; rintro e w' ⟨rfl, rfl⟩))
  go_returns
  refine ⟨⟨_, _, _, rfl, ⟨_, _, _, rfl⟩, ?_⟩, by go_grown⟩
  have := Err.new (w.alloc (.cells #[.string ⟨#[]⟩, .slice none 0 0] 66)) 1 ⟨#[116, 111, 111, 32, 109, 97, 110, 121, 32, 99, 111, 108, 117, 109, 110, 115]⟩
  simpa using this

set_option maxRecDepth 10000 in
set_option maxHeartbeats 1000000 in
theorem rt_name (s : ByteArray) (w : World) (n m : Nat) (n0 : List UInt8) (hn : n ≤ 5) (hm : 1 ≤ m) (hm2 : m ≤ 7) (cs : List Value) (hcs : cs[0]? = some (.string (bs n0)))
    (hc : ∀ w, Calls Tryz.prog 21 #[.string s, .string ⟨#[32]⟩] w fun e w' => e = .returned (.int .i64 n) ∧ w' = w)
    (hs : ∀ o, Calls Tryz.prog 23 #[.string s, .string ⟨#[32]⟩] (w.alloc o) fun e w' => e = .returned (.slice (some ⟨w.heap.size + 1, 0, none⟩) m m) ∧ w' = (w.alloc o).alloc (.cells cs.toArray 9))
    (hi : ∀ w, Calls Tryz.prog 43 #[.string (bs n0)] w fun e w' => e = .returned (.bool false) ∧ w' = w) :
    Calls Tryz.prog 24 #[.string s] w fun e w' => TableAns w.heap.size w' none e ∧ Below w.heap.size w w' := by
  have hc0 : ∀ o, ((w.alloc o).alloc (.cells cs.toArray 9)).cell? ⟨w.heap.size + 1, 0, none⟩ = some (.string (bs n0)) := fun o => by
    rw [World.cell?_alloc_at _ _ _ _ (by simp)]; simpa using hcs
  go_enter Tryz.func24, Tryz.ntmps24
  go_wp2_with (first
    | (go_at_call 21; refine (hc _).mono ?_; rintro e w' ⟨rfl, hw⟩; obtain rfl := hw.symm)
    | (go_at_call 23; refine (hs _).mono ?_; rintro e w' ⟨rfl, rfl⟩)
    | (go_at_call 43; refine (hi _).mono ?_; rintro e w' ⟨rfl, hw⟩; obtain rfl := hw.symm)
    | (go_at_call 22; refine (schemaFault_any _ _).mono ?_; rintro e w' ⟨rfl, rfl⟩))
  go_returns
  refine ⟨⟨_, _, _, rfl, ⟨_, _, _, rfl⟩, ?_⟩, by go_grown⟩
  have := Err.new ((w.alloc (.cells #[.string ⟨#[]⟩, .slice none 0 0] 66)).alloc (.cells cs.toArray 9)) 1 ⟨#[110, 111, 32, 110, 97, 109, 101]⟩
  simpa using this

set_option maxRecDepth 10000 in
set_option maxHeartbeats 1000000 in
theorem rt_types (s : ByteArray) (w : World) (n m : Nat) (n0 : List UInt8) (hn : n ≤ 5) (hm : 2 ≤ m) (hm2 : m ≤ 7) (cs : List Value) (hcl : cs.length = m) (hcs : cs[0]? = some (.string (bs n0))) (P : World → Value → Value → Prop)
    (hc : ∀ w, Calls Tryz.prog 21 #[.string s, .string ⟨#[32]⟩] w fun e w' => e = .returned (.int .i64 n) ∧ w' = w)
    (hs : ∀ o, Calls Tryz.prog 23 #[.string s, .string ⟨#[32]⟩] (w.alloc o) fun e w' => e = .returned (.slice (some ⟨w.heap.size + 1, 0, none⟩) m m) ∧ w' = (w.alloc o).alloc (.cells cs.toArray 9))
    (hi : ∀ w, Calls Tryz.prog 43 #[.string (bs n0)] w fun e w' => e = .returned (.bool true) ∧ w' = w)
    (ht : ∀ o, Calls Tryz.prog 44 #[.slice (some ⟨w.heap.size + 1, 1, none⟩) (m - 1) (m - 1)] ((w.alloc o).alloc (.cells cs.toArray 9)) fun e w' => (∃ v ev, e = .returned (.tuple #[v, ev]) ∧ P w' v ev ∧ (∃ a n c, v = .slice a n c)) ∧ Below ((w.alloc o).alloc (.cells cs.toArray 9)).heap.size ((w.alloc o).alloc (.cells cs.toArray 9)) w') :
    Calls Tryz.prog 24 #[.string s] w fun e w' => (∃ v ev W, e = .returned (.tuple #[.agg #[.string (bs n0), v], ev]) ∧ P W v ev ∧ (∃ a n c, v = .slice a n c) ∧ w.heap.size < W.heap.size ∧ W.cell? ⟨w.heap.size, 0, none⟩ = some (.string ⟨#[]⟩) ∧ Below w.heap.size w W ∧ w' = (W.setCell ⟨w.heap.size, 0, none⟩ (.string (bs n0))).setCell ⟨w.heap.size, 1, none⟩ v) := by
  have hc0 : ∀ o, ((w.alloc o).alloc (.cells cs.toArray 9)).cell? ⟨w.heap.size + 1, 0, none⟩ = some (.string (bs n0)) := fun o => by
    rw [World.cell?_alloc_at _ _ _ _ (by simp)]; simpa using hcs
  go_enter Tryz.func24, Tryz.ntmps24
  go_wp2_with (first
    | (go_at_call 21; refine (hc _).mono ?_; rintro e w' ⟨rfl, hw⟩; obtain rfl := hw.symm)
    | (go_at_call 23; refine (hs _).mono ?_; rintro e w' ⟨rfl, rfl⟩)
    | (go_at_call 43; refine (hi _).mono ?_; rintro e w' ⟨rfl, hw⟩; obtain rfl := hw.symm)
    | (go_at_call 44; refine (ht _).mono ?_; rintro e W ⟨⟨v, ev, rfl, hP, av, nv, cv, rfl⟩, hbW⟩; obtain ⟨hcc, hff⟩ := bcell hbW; have hz : w.heap.size + 2 ≤ W.heap.size := (by have := hbW.size; simp at this; omega)))
  have k0 : W.cell? ⟨w.heap.size, 0, none⟩ = some (.string ⟨#[]⟩) := (hcc w.heap.size 0 (by simp; omega)).trans (by simp)
  have k1 : W.cell? ⟨w.heap.size, 1, none⟩ = some (.slice none 0 0) := (hcc w.heap.size 1 (by simp; omega)).trans (by simp)
  obtain ⟨e0, e1⟩ := two_set (W := W) (h := w.heap.size) (x := .string (bs n0)) (y := .slice av nv cv) k0 k1
  refine bodyPost_ret (v := .tuple #[.agg #[.string (bs n0), .slice av nv cv], ev]) (by simp [results, Tryz.results24, go_sem, e0, e1]) rfl ⟨_, _, W, rfl, hP, ⟨_, _, _, rfl⟩, by omega, k0, ?_, rfl⟩
  exact (((Below.refl _ _).alloc (Nat.le_refl _) _).alloc (by simp) _).trans (hbW.mono (by simp; omega))

set_option maxRecDepth 10000 in
set_option maxHeartbeats 1000000 in
theorem rt_one (s : ByteArray) (w : World) (n m : Nat) (n0 : List UInt8) (hn : n ≤ 5) (hm : m = 1) (_hm2 : m ≤ 7) (cs : List Value) (_hcl : cs.length = m) (hcs : cs[0]? = some (.string (bs n0))) (P : World → Value → Value → Prop)
    (hc : ∀ w, Calls Tryz.prog 21 #[.string s, .string ⟨#[32]⟩] w fun e w' => e = .returned (.int .i64 n) ∧ w' = w)
    (hs : ∀ o, Calls Tryz.prog 23 #[.string s, .string ⟨#[32]⟩] (w.alloc o) fun e w' => e = .returned (.slice (some ⟨w.heap.size + 1, 0, none⟩) m m) ∧ w' = (w.alloc o).alloc (.cells cs.toArray 9))
    (hi : ∀ w, Calls Tryz.prog 43 #[.string (bs n0)] w fun e w' => e = .returned (.bool true) ∧ w' = w)
    (ht : ∀ o, Calls Tryz.prog 44 #[.slice (some ⟨w.heap.size + 1, 0, none⟩) 0 0] ((w.alloc o).alloc (.cells cs.toArray 9)) fun e w' => (∃ v ev, e = .returned (.tuple #[v, ev]) ∧ P w' v ev ∧ (∃ a n c, v = .slice a n c)) ∧ Below ((w.alloc o).alloc (.cells cs.toArray 9)).heap.size ((w.alloc o).alloc (.cells cs.toArray 9)) w') :
    Calls Tryz.prog 24 #[.string s] w fun e w' => (∃ v ev W, e = .returned (.tuple #[.agg #[.string (bs n0), v], ev]) ∧ P W v ev ∧ (∃ a n c, v = .slice a n c) ∧ w.heap.size < W.heap.size ∧ W.cell? ⟨w.heap.size, 0, none⟩ = some (.string ⟨#[]⟩) ∧ Below w.heap.size w W ∧ w' = (W.setCell ⟨w.heap.size, 0, none⟩ (.string (bs n0))).setCell ⟨w.heap.size, 1, none⟩ v) := by
  have hc0 : ∀ o, ((w.alloc o).alloc (.cells cs.toArray 9)).cell? ⟨w.heap.size + 1, 0, none⟩ = some (.string (bs n0)) := fun o => by
    rw [World.cell?_alloc_at _ _ _ _ (by simp)]; simpa using hcs
  go_enter Tryz.func24, Tryz.ntmps24
  go_wp2_with (first
    | (go_at_call 21; refine (hc _).mono ?_; rintro e w' ⟨rfl, hw⟩; obtain rfl := hw.symm)
    | (go_at_call 23; refine (hs _).mono ?_; rintro e w' ⟨rfl, rfl⟩)
    | (go_at_call 43; refine (hi _).mono ?_; rintro e w' ⟨rfl, hw⟩; obtain rfl := hw.symm)
    | (go_at_call 44; refine (ht _).mono ?_; rintro e W ⟨⟨v, ev, rfl, hP, av, nv, cv, rfl⟩, hbW⟩; obtain ⟨hcc, hff⟩ := bcell hbW; have hz : w.heap.size + 2 ≤ W.heap.size := (by have := hbW.size; simp at this; omega)))
  have k0 : W.cell? ⟨w.heap.size, 0, none⟩ = some (.string ⟨#[]⟩) := (hcc w.heap.size 0 (by simp; omega)).trans (by simp)
  have k1 : W.cell? ⟨w.heap.size, 1, none⟩ = some (.slice none 0 0) := (hcc w.heap.size 1 (by simp; omega)).trans (by simp)
  obtain ⟨e0, e1⟩ := two_set (W := W) (h := w.heap.size) (x := .string (bs n0)) (y := .slice av nv cv) k0 k1
  refine bodyPost_ret (v := .tuple #[.agg #[.string (bs n0), .slice av nv cv], ev]) (by simp [results, Tryz.results24, go_sem, e0, e1]) rfl ⟨_, _, W, rfl, hP, ⟨_, _, _, rfl⟩, by omega, k0, ?_, rfl⟩
  exact (((Below.refl _ _).alloc (Nat.le_refl _) _).alloc (by simp) _).trans (hbW.mono (by simp; omega))


theorem Err.set2 {W : World} {n : Int} {e : Value} (h : Err W n e) {b : Nat} {s0 : ByteArray} (h0 : W.cell? ⟨b, 0, none⟩ = some (.string s0)) (x y : Value) : Err ((W.setCell ⟨b, 0, none⟩ x).setCell ⟨b, 1, none⟩ y) n e := by
  obtain ⟨b1, d, h⟩ := h
  refine ⟨b1, d, ?_⟩
  induction h with
  | fault hl hc =>
    refine .fault (by simpa using hl) ?_
    rw [World.cell?_setCell_other, World.cell?_setCell_other]
    · exact hc
    · intro e; simp at e; rw [e, hc] at h0; cases h0
    · simp
  | place d b2 e hl hc _ ih =>
    refine .place d b2 e (by simpa using hl) ?_ ih
    rw [World.cell?_setCell_other, World.cell?_setCell_other]
    · exact hc
    · simp
    · simp

theorem tableOf_len {p : List UInt8} {n0 : List UInt8} {tys : List (List UInt8)} (h : spl 32 p = n0 :: tys) (hb : 5 < tys.length) : tableOf p = none := by
  have : ¬ tys.length ≤ 5 := by omega
  simp [tableOf, h, this]
theorem tableOf_name {p : List UInt8} {n0 : List UInt8} {tys : List (List UInt8)} (h : spl 32 p = n0 :: tys) (hb : isNameL n0 = false) : tableOf p = none := by simp [tableOf, h, hb]
theorem tableOf_nil {p : List UInt8} {n0 : List UInt8} {tys : List (List UInt8)} (h : spl 32 p = n0 :: tys) (hb : tys.length = 0) : tableOf p = none := by
  have : ¬ 1 ≤ tys.length := by omega
  simp [tableOf, h, this]
theorem tableOf_types {p : List UInt8} {n0 : List UInt8} {tys : List (List UInt8)} (h : spl 32 p = n0 :: tys) (hb : tys.all isType = false) : tableOf p = none := by simp [tableOf, h, hb]
theorem tableOf_yes {p : List UInt8} {n0 : List UInt8} {tys : List (List UInt8)} (h : spl 32 p = n0 :: tys) (h1 : isNameL n0 = true) (h3 : 1 ≤ tys.length) (h5 : tys.length ≤ 5) (h4 : tys.all isType = true) : tableOf p = some (n0, tys.map (· == sText)) := by
  simp [tableOf, h, h1, h3, h5, h4]

theorem readTable_any (s : ByteArray) (w : World) (hs : s.size ≤ 1048576) (hg : Glob w) :
    Calls Tryz.prog 24 #[.string s] w fun e w' => TableAns w.heap.size w' (tableOf s.data.toList) e ∧ Below w.heap.size w w' := by
  have hl2 : s.data.toList.length ≤ 1048576 := by simpa using hs
  have hlen := spl_length 32 s.data.toList
  have hle := spl_length_le 32 s.data.toList
  have hmem := spl_mem_length 32 s.data.toList
  have hc := fun w => pcount_any s 32 w
  obtain ⟨n0, tys, hsp⟩ : ∃ n0 tys, spl 32 s.data.toList = n0 :: tys := by
    cases hh : spl 32 s.data.toList with
    | nil => exact absurd hh (spl_ne_nil 32 _)
    | cons a b => exact ⟨a, b, rfl⟩
  have hcn : s.data.toList.count 32 = tys.length := by rw [hsp, List.length_cons] at hlen; omega
  rw [hcn] at hc
  have htl : tys.length ≤ 1048577 := by rw [hsp] at hle; simp at hle; omega
  by_cases h5 : 5 < tys.length
  · rw [tableOf_len hsp h5]
    exact rt_many s w tys.length h5 (by omega) hc
  have hgo : ∀ o, Glob (w.alloc o) := fun o => hg.kept ((Below.refl _ _).alloc (Nat.le_refl _) o)
  have hss : ∀ o, Calls Tryz.prog 23 #[.string s, .string ⟨#[32]⟩] (w.alloc o) fun e w' => e = .returned (.slice (some ⟨w.heap.size + 1, 0, none⟩) (tys.length + 1) (tys.length + 1)) ∧ w' = (w.alloc o).alloc (.cells ((n0 :: tys).map fun l => Value.string (bs l)).toArray 9) := fun o => by
    have := psplit_any s 32 (w.alloc o) (by omega) (hgo o)
    rw [hsp] at this
    simpa using this
  have hn0 : n0.length ≤ 1048576 := Nat.le_trans (hmem n0 (by rw [hsp]; simp)) hl2
  have hnm := fun w => sIsName_any (bs n0) w (by simp [maxLen]; omega)
  rw [bs_toList] at hnm
  cases hnb : isNameL n0
  · rw [tableOf_name hsp hnb]
    rw [hnb] at hnm
    exact rt_name s w tys.length (tys.length + 1) n0 (by omega) (by omega) (by omega) _ (by simp) hc hss hnm
  rw [hnb] at hnm
  by_cases h0 : tys.length = 0
  · rw [tableOf_nil hsp h0]
    refine (rt_one s w tys.length (tys.length + 1) n0 (by omega) (by omega) (by omega) ((n0 :: tys).map fun l => Value.string (bs l)) (by simp) (by simp) (fun w' _ ev => Err w' 1 ev) hc hss hnm ?_).mono ?_
    · intro o
      refine (readTypes_nil _ _ _).mono ?_
      rintro e w' ⟨⟨v, ev, g1, g0, g2⟩, g3⟩
      exact ⟨⟨v, ev, g1, g2, g0⟩, g3⟩
    · rintro e w' ⟨v, ev, W, g1, g2, g3, g4, g5, g6, rfl⟩
      exact ⟨⟨_, v, ev, g1, g3, g2.set2 g5 _ _⟩, (g6.setCell (by simp) _).setCell (by simp) _⟩
  · have hp : 1 ≤ tys.length := by omega
    refine (rt_types s w tys.length (tys.length + 1) n0 (by omega) (by omega) (by omega) ((n0 :: tys).map fun l => Value.string (bs l)) (by simp) (by simp)
      (fun w' v ev => (tys.all isType = true → ev = .nilIface ∧ w'.ownsRow (w.heap.size + 2) 83 1 v tys.length (tys.map tyv)) ∧ (tys.all isType = false → Err w' 1 ev)) hc hss hnm ?_).mono ?_
    · intro o
      have := readTypes_any (w.heap.size + 1) 1 tys.length tys ((w.alloc o).alloc (.cells ((n0 :: tys).map fun l => Value.string (bs l)).toArray 9)) hp htl (by simp) (fun j hj => by
        rw [World.cell?_alloc_at _ _ _ _ (by simp)]
        simp [List.getD, hj, Nat.add_comm 1 j])
      refine this.mono ?_
      rintro e w' ⟨⟨v, ev, g1, g0, g2, g3⟩, g4⟩
      exact ⟨⟨v, ev, g1, ⟨fun h => ⟨(g2 h).1, by simpa using (g2 h).2⟩, g3⟩, g0⟩, g4⟩
    · rintro e w' ⟨v, ev, W, g1, ⟨g2, g2'⟩, g3, g4, g5, g6, rfl⟩
      refine ⟨⟨_, v, ev, g1, g3, ?_⟩, (g6.setCell (by simp) _).setCell (by simp) _⟩
      cases hall : tys.all isType
      · rw [tableOf_types hsp hall]
        exact (g2' hall).set2 g5 _ _
      · rw [tableOf_yes hsp hnb hp (by omega) hall]
        obtain ⟨q1, q2⟩ := g2 hall
        refine ⟨q1, rfl, ?_⟩
        have := ownsRow_setCell_below (ownsRow_setCell_below q2 (a := ⟨w.heap.size, 0, none⟩) (by simp) (.string (bs n0))) (a := ⟨w.heap.size, 1, none⟩) (by simp) v
        have := owns_base this (show w.heap.size ≤ w.heap.size + 2 by omega)
        show World.ownsRow _ _ _ _ v (tys.map (· == sText)).length ((tys.map (· == sText)).map tcode)
        rw [List.length_map, List.map_map]
        exact this
end Go.Proofs.YtiekijfmafklfaaGreatDoor
