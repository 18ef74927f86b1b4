import Derived.Test.YtnpjldffciociaaGreatDoorB14
import Derived.Test.YtnpjldffciociaaGreatDoorB13
namespace Go.Proofs.YtnpjldffciociaaGreatDoor
open Go.RowKit

/-- What readTable answers. -/
def TableAns (w0 : Nat) (w : World) (o : Option (List UInt8 × List Bool)) (e : Ending) : Prop :=
  ∃ nm tv ev, e = .returned (.tuple #[.agg #[.string nm, tv], ev]) ∧ (∃ a n c, tv = .slice a n c) ∧ match o with
    | none => Err w 1 ev
    | some t => ev = .nilIface ∧ nm = bs t.1 ∧ w.ownsRow w0 185 1 tv t.2.length (t.2.map tcode)

theorem two_set {W : World} {h : Nat} {x y : Value} {a b : Value} (h0 : W.cell? ⟨h, 0, none⟩ = some a) (h1 : W.cell? ⟨h, 1, none⟩ = some b) :
    ((W.setCell ⟨h, 0, none⟩ x).setCell ⟨h, 1, none⟩ y).cell? ⟨h, 0, none⟩ = some x ∧ ((W.setCell ⟨h, 0, none⟩ x).setCell ⟨h, 1, none⟩ y).cell? ⟨h, 1, none⟩ = some y := by
  have k1 : (W.setCell ⟨h, 0, none⟩ x).cell? ⟨h, 1, none⟩ = some b := by
    rw [World.cell?_setCell_other]
    · exact h1
    · simp
  refine ⟨?_, World.cell?_setCell_same _ _ _ k1⟩
  rw [World.cell?_setCell_other]
  · exact World.cell?_setCell_same _ _ _ h0
  · simp

set_option maxRecDepth 10000 in
set_option maxHeartbeats 400000 in
theorem pclone_any (s : ByteArray) (w : World) (hs : s.size ≤ 1048576) : Calls Tryz.prog 82 #[.string s] w fun e w' => e = .returned (.string s) ∧ Below w.heap.size w w' := by
  have h := fun w => Tryz.stringslite_Clone s w (by omega)
  go_enter Tryz.func82, Tryz.ntmps82
  go_wp2_with (go_at_call 129; refine (h _).mono ?_; rintro e w1 ⟨rfl, hb⟩)
  go_ret
  exact ⟨rfl, hb⟩
set_option maxRecDepth 10000 in
set_option maxHeartbeats 1000000 in
theorem rt_many (s : ByteArray) (w : World) (n : Nat) (hn : 5 < n) (hn2 : n ≤ 4194304) (hc : ∀ w, Calls Tryz.prog 92 #[.string s, .string ⟨#[32]⟩] w fun e w' => e = .returned (.int .i64 n) ∧ w' = w) :
    Calls Tryz.prog 95 #[.string s] w fun e w' => TableAns w.heap.size w' none e ∧ Below w.heap.size w w' := by
  go_enter Tryz.func95, Tryz.ntmps95
  go_wp2_with (first
    | (go_at_call 92; refine (hc _).mono ?_; rintro e w' ⟨rfl, hw⟩; obtain rfl := hw.symm)
    | (go_at_call 93; refine (schemaFault_any _ _).mono ?_; rintro e w' ⟨rfl, rfl⟩))
  go_returns
  refine ⟨⟨_, _, _, rfl, ⟨_, _, _, rfl⟩, ?_⟩, by go_grown⟩
  have := Err.new (w.alloc (.cells #[.string ⟨#[]⟩, .slice none 0 0] 169)) 1 ⟨#[116, 111, 111, 32, 109, 97, 110, 121, 32, 99, 111, 108, 117, 109, 110, 115]⟩
  simpa using this

set_option maxRecDepth 10000 in
set_option maxHeartbeats 1000000 in
theorem rt_name (s : ByteArray) (w : World) (n m : Nat) (n0 : List UInt8) (hn : n ≤ 5) (hm : 1 ≤ m) (hm2 : m ≤ 7) (cs : List Value) (hcs : cs[0]? = some (.string (bs n0)))
    (hc : ∀ w, Calls Tryz.prog 92 #[.string s, .string ⟨#[32]⟩] w fun e w' => e = .returned (.int .i64 n) ∧ w' = w)
    (hs : ∀ o, Calls Tryz.prog 94 #[.string s, .string ⟨#[32]⟩] (w.alloc o) fun e w' => e = .returned (.slice (some ⟨w.heap.size + 1, 0, none⟩) m m) ∧ w' = (w.alloc o).alloc (.cells cs.toArray 9))
    (hi : ∀ w, Calls Tryz.prog 73 #[.string (bs n0)] w fun e w' => e = .returned (.bool false) ∧ w' = w) :
    Calls Tryz.prog 95 #[.string s] w fun e w' => TableAns w.heap.size w' none e ∧ Below w.heap.size w w' := by
  have hc0 : ∀ o, ((w.alloc o).alloc (.cells cs.toArray 9)).cell? ⟨w.heap.size + 1, 0, none⟩ = some (.string (bs n0)) := fun o => by
    rw [World.cell?_alloc_at _ _ _ _ (by simp)]; simpa using hcs
  go_enter Tryz.func95, Tryz.ntmps95
  go_wp2_with (first
    | (go_at_call 92; refine (hc _).mono ?_; rintro e w' ⟨rfl, hw⟩; obtain rfl := hw.symm)
    | (go_at_call 94; refine (hs _).mono ?_; rintro e w' ⟨rfl, rfl⟩)
    | (go_at_call 73; refine (hi _).mono ?_; rintro e w' ⟨rfl, hw⟩; obtain rfl := hw.symm)
    | (go_at_call 93; refine (schemaFault_any _ _).mono ?_; rintro e w' ⟨rfl, rfl⟩))
  go_returns
  refine ⟨⟨_, _, _, rfl, ⟨_, _, _, rfl⟩, ?_⟩, by go_grown⟩
  have := Err.new ((w.alloc (.cells #[.string ⟨#[]⟩, .slice none 0 0] 169)).alloc (.cells cs.toArray 9)) 1 ⟨#[110, 111, 32, 110, 97, 109, 101]⟩
  simpa using this

set_option maxRecDepth 10000 in
set_option maxHeartbeats 1000000 in
theorem rt_types (s : ByteArray) (w : World) (n m : Nat) (n0 : List UInt8) (hn : n ≤ 5) (hm : 2 ≤ m) (hm2 : m ≤ 7) (cs : List Value) (hcl : cs.length = m) (hcs : cs[0]? = some (.string (bs n0))) (P : World → Value → Value → Prop)
    (hc : ∀ w, Calls Tryz.prog 92 #[.string s, .string ⟨#[32]⟩] w fun e w' => e = .returned (.int .i64 n) ∧ w' = w)
    (hs : ∀ o, Calls Tryz.prog 94 #[.string s, .string ⟨#[32]⟩] (w.alloc o) fun e w' => e = .returned (.slice (some ⟨w.heap.size + 1, 0, none⟩) m m) ∧ w' = (w.alloc o).alloc (.cells cs.toArray 9))
    (hi : ∀ w, Calls Tryz.prog 73 #[.string (bs n0)] w fun e w' => e = .returned (.bool true) ∧ w' = w)
    (hcl : ∀ W, Calls Tryz.prog 82 #[.string (bs n0)] W fun e w' => e = .returned (.string (bs n0)) ∧ Below W.heap.size W w') (hPm : ∀ W W2 v ev, P W v ev → Below W.heap.size W W2 → P W2 v ev)
    (ht : ∀ o, Calls Tryz.prog 146 #[.slice (some ⟨w.heap.size + 1, 1, none⟩) (m - 1) (m - 1)] ((w.alloc o).alloc (.cells cs.toArray 9)) fun e w' => (∃ v ev, e = .returned (.tuple #[v, ev]) ∧ P w' v ev ∧ (∃ a n c, v = .slice a n c)) ∧ Below ((w.alloc o).alloc (.cells cs.toArray 9)).heap.size ((w.alloc o).alloc (.cells cs.toArray 9)) w') :
    Calls Tryz.prog 95 #[.string s] w fun e w' => (∃ v ev W, e = .returned (.tuple #[.agg #[.string (bs n0), v], ev]) ∧ P W v ev ∧ (∃ a n c, v = .slice a n c) ∧ w.heap.size < W.heap.size ∧ W.cell? ⟨w.heap.size, 0, none⟩ = some (.string ⟨#[]⟩) ∧ Below w.heap.size w W ∧ w' = (W.setCell ⟨w.heap.size, 0, none⟩ (.string (bs n0))).setCell ⟨w.heap.size, 1, none⟩ v) := by
  have hc0 : ∀ o, ((w.alloc o).alloc (.cells cs.toArray 9)).cell? ⟨w.heap.size + 1, 0, none⟩ = some (.string (bs n0)) := fun o => by
    rw [World.cell?_alloc_at _ _ _ _ (by simp)]; simpa using hcs
  go_enter Tryz.func95, Tryz.ntmps95
  go_wp2_with (first
    | (go_at_call 92; refine (hc _).mono ?_; rintro e w' ⟨rfl, hw⟩; obtain rfl := hw.symm)
    | (go_at_call 94; refine (hs _).mono ?_; rintro e w' ⟨rfl, rfl⟩)
    | (go_at_call 73; refine (hi _).mono ?_; rintro e w' ⟨rfl, hw⟩; obtain rfl := hw.symm)
    | (go_at_call 146; refine (ht _).mono ?_; rintro e W0 ⟨⟨v, ev, rfl, hP0, av, nv, cv, rfl⟩, hbW0⟩; obtain ⟨hcc0, hff0⟩ := bcell hbW0)
    | (go_at_call 82; with_reducible refine (hcl _).mono ?_; rintro e W ⟨rfl, hb2⟩; have hP := hPm _ _ _ _ hP0 hb2; have hbW := hbW0.trans (hb2.mono hbW0.size); clear hcc0 hff0; obtain ⟨hcc, hff⟩ := bcell hbW; have hz : w.heap.size + 2 ≤ W.heap.size := (by have := hbW.size; simp at this; omega)))
  have k0 : W.cell? ⟨w.heap.size, 0, none⟩ = some (.string ⟨#[]⟩) := (hcc w.heap.size 0 (by simp; omega)).trans (by simp)
  have k1 : W.cell? ⟨w.heap.size, 1, none⟩ = some (.slice none 0 0) := (hcc w.heap.size 1 (by simp; omega)).trans (by simp)
  obtain ⟨e0, e1⟩ := two_set (W := W) (h := w.heap.size) (x := .string (bs n0)) (y := .slice av nv cv) k0 k1
  refine bodyPost_ret (v := .tuple #[.agg #[.string (bs n0), .slice av nv cv], ev]) (by simp [results, Tryz.results95, go_sem, e0, e1]) rfl ⟨_, _, W, rfl, hP, ⟨_, _, _, rfl⟩, by omega, k0, ?_, rfl⟩
  exact (((Below.refl _ _).alloc (Nat.le_refl _) _).alloc (by simp) _).trans (hbW.mono (by simp; omega))

set_option maxRecDepth 10000 in
set_option maxHeartbeats 1000000 in
theorem rt_one (s : ByteArray) (w : World) (n m : Nat) (n0 : List UInt8) (hn : n ≤ 5) (hm : m = 1) (_hm2 : m ≤ 7) (cs : List Value) (_hcl : cs.length = m) (hcs : cs[0]? = some (.string (bs n0))) (P : World → Value → Value → Prop)
    (hc : ∀ w, Calls Tryz.prog 92 #[.string s, .string ⟨#[32]⟩] w fun e w' => e = .returned (.int .i64 n) ∧ w' = w)
    (hs : ∀ o, Calls Tryz.prog 94 #[.string s, .string ⟨#[32]⟩] (w.alloc o) fun e w' => e = .returned (.slice (some ⟨w.heap.size + 1, 0, none⟩) m m) ∧ w' = (w.alloc o).alloc (.cells cs.toArray 9))
    (hi : ∀ w, Calls Tryz.prog 73 #[.string (bs n0)] w fun e w' => e = .returned (.bool true) ∧ w' = w)
    (hcl : ∀ W, Calls Tryz.prog 82 #[.string (bs n0)] W fun e w' => e = .returned (.string (bs n0)) ∧ Below W.heap.size W w') (hPm : ∀ W W2 v ev, P W v ev → Below W.heap.size W W2 → P W2 v ev)
    (ht : ∀ o, Calls Tryz.prog 146 #[.slice (some ⟨w.heap.size + 1, 0, none⟩) 0 0] ((w.alloc o).alloc (.cells cs.toArray 9)) fun e w' => (∃ v ev, e = .returned (.tuple #[v, ev]) ∧ P w' v ev ∧ (∃ a n c, v = .slice a n c)) ∧ Below ((w.alloc o).alloc (.cells cs.toArray 9)).heap.size ((w.alloc o).alloc (.cells cs.toArray 9)) w') :
    Calls Tryz.prog 95 #[.string s] w fun e w' => (∃ v ev W, e = .returned (.tuple #[.agg #[.string (bs n0), v], ev]) ∧ P W v ev ∧ (∃ a n c, v = .slice a n c) ∧ w.heap.size < W.heap.size ∧ W.cell? ⟨w.heap.size, 0, none⟩ = some (.string ⟨#[]⟩) ∧ Below w.heap.size w W ∧ w' = (W.setCell ⟨w.heap.size, 0, none⟩ (.string (bs n0))).setCell ⟨w.heap.size, 1, none⟩ v) := by
  have hc0 : ∀ o, ((w.alloc o).alloc (.cells cs.toArray 9)).cell? ⟨w.heap.size + 1, 0, none⟩ = some (.string (bs n0)) := fun o => by
    rw [World.cell?_alloc_at _ _ _ _ (by simp)]; simpa using hcs
  go_enter Tryz.func95, Tryz.ntmps95
  go_wp2_with (first
    | (go_at_call 92; refine (hc _).mono ?_; rintro e w' ⟨rfl, hw⟩; obtain rfl := hw.symm)
    | (go_at_call 94; refine (hs _).mono ?_; rintro e w' ⟨rfl, rfl⟩)
    | (go_at_call 73; refine (hi _).mono ?_; rintro e w' ⟨rfl, hw⟩; obtain rfl := hw.symm)
    | (go_at_call 146; refine (ht _).mono ?_; rintro e W0 ⟨⟨v, ev, rfl, hP0, av, nv, cv, rfl⟩, hbW0⟩; obtain ⟨hcc0, hff0⟩ := bcell hbW0)
    | (go_at_call 82; with_reducible refine (hcl _).mono ?_; rintro e W ⟨rfl, hb2⟩; have hP := hPm _ _ _ _ hP0 hb2; have hbW := hbW0.trans (hb2.mono hbW0.size); clear hcc0 hff0; obtain ⟨hcc, hff⟩ := bcell hbW; have hz : w.heap.size + 2 ≤ W.heap.size := (by have := hbW.size; simp at this; omega)))
  have k0 : W.cell? ⟨w.heap.size, 0, none⟩ = some (.string ⟨#[]⟩) := (hcc w.heap.size 0 (by simp; omega)).trans (by simp)
  have k1 : W.cell? ⟨w.heap.size, 1, none⟩ = some (.slice none 0 0) := (hcc w.heap.size 1 (by simp; omega)).trans (by simp)
  obtain ⟨e0, e1⟩ := two_set (W := W) (h := w.heap.size) (x := .string (bs n0)) (y := .slice av nv cv) k0 k1
  refine bodyPost_ret (v := .tuple #[.agg #[.string (bs n0), .slice av nv cv], ev]) (by simp [results, Tryz.results95, go_sem, e0, e1]) rfl ⟨_, _, W, rfl, hP, ⟨_, _, _, rfl⟩, by omega, k0, ?_, rfl⟩
  exact (((Below.refl _ _).alloc (Nat.le_refl _) _).alloc (by simp) _).trans (hbW.mono (by simp; omega))


theorem Err.set2 {W : World} {n : Int} {e : Value} (h : Err W n e) {b : Nat} {s0 : ByteArray} (h0 : W.cell? ⟨b, 0, none⟩ = some (.string s0)) (x y : Value) : Err ((W.setCell ⟨b, 0, none⟩ x).setCell ⟨b, 1, none⟩ y) n e := by
  obtain ⟨b1, d, h⟩ := h
  refine ⟨b1, d, ?_⟩
  induction h using Chain.ind with
  | fault hl hc =>
    refine .fault (by simpa using hl) ?_
    rw [World.cell?_setCell_other, World.cell?_setCell_other]
    · exact hc
    · intro e; simp at e; rw [e, hc] at h0; cases h0
    · simp
  | place d b2 e hl hc _ ih =>
    refine .place d b2 e (by simpa using hl) ?_ ih
    rw [World.cell?_setCell_other, World.cell?_setCell_other]
    · exact hc
    · simp
    · simp

theorem tableOf_len {p : List UInt8} {n0 : List UInt8} {tys : List (List UInt8)} (h : spl 32 p = n0 :: tys) (hb : 5 < tys.length) : tableOf p = none := by
  have : ¬ tys.length ≤ 5 := by omega
  simp [tableOf, h, this]
theorem tableOf_name {p : List UInt8} {n0 : List UInt8} {tys : List (List UInt8)} (h : spl 32 p = n0 :: tys) (hb : isNameL n0 = false) : tableOf p = none := by simp [tableOf, h, hb]
theorem tableOf_nil {p : List UInt8} {n0 : List UInt8} {tys : List (List UInt8)} (h : spl 32 p = n0 :: tys) (hb : tys.length = 0) : tableOf p = none := by
  have : ¬ 1 ≤ tys.length := by omega
  simp [tableOf, h, this]
theorem tableOf_types {p : List UInt8} {n0 : List UInt8} {tys : List (List UInt8)} (h : spl 32 p = n0 :: tys) (hb : tys.all isType = false) : tableOf p = none := by simp [tableOf, h, hb]
theorem tableOf_yes {p : List UInt8} {n0 : List UInt8} {tys : List (List UInt8)} (h : spl 32 p = n0 :: tys) (h1 : isNameL n0 = true) (h3 : 1 ≤ tys.length) (h5 : tys.length ≤ 5) (h4 : tys.all isType = true) : tableOf p = some (n0, tys.map (· == sText)) := by
  simp [tableOf, h, h1, h3, h5, h4]

theorem readTable_any (s : ByteArray) (w : World) (hs : s.size ≤ 1048576) (hg : Glob w) :
    Calls Tryz.prog 95 #[.string s] w fun e w' => TableAns w.heap.size w' (tableOf s.data.toList) e ∧ Below w.heap.size w w' := by
  have hl2 : s.data.toList.length ≤ 1048576 := by simpa using hs
  have hlen := spl_length 32 s.data.toList
  have hle := spl_length_le 32 s.data.toList
  have hmem := spl_mem_length 32 s.data.toList
  have hc := fun w => pcount_any s 32 w
  obtain ⟨n0, tys, hsp⟩ : ∃ n0 tys, spl 32 s.data.toList = n0 :: tys := by
    cases hh : spl 32 s.data.toList with
    | nil => exact absurd hh (spl_ne_nil 32 _)
    | cons a b => exact ⟨a, b, rfl⟩
  have hcn : s.data.toList.count 32 = tys.length := by rw [hsp, List.length_cons] at hlen; omega
  rw [hcn] at hc
  have htl : tys.length ≤ 1048577 := by rw [hsp] at hle; simp at hle; omega
  by_cases h5 : 5 < tys.length
  · rw [tableOf_len hsp h5]
    exact rt_many s w tys.length h5 (by omega) hc
  have hgo : ∀ o, Glob (w.alloc o) := fun o => hg.kept ((Below.refl _ _).alloc (Nat.le_refl _) o)
  have hss : ∀ o, Calls Tryz.prog 94 #[.string s, .string ⟨#[32]⟩] (w.alloc o) fun e w' => e = .returned (.slice (some ⟨w.heap.size + 1, 0, none⟩) (tys.length + 1) (tys.length + 1)) ∧ w' = (w.alloc o).alloc (.cells ((n0 :: tys).map fun l => Value.string (bs l)).toArray 9) := fun o => by
    have := psplit_any s 32 (w.alloc o) (by omega) (hgo o)
    rw [hsp] at this
    simpa using this
  have hn0 : n0.length ≤ 1048576 := Nat.le_trans (hmem n0 (by rw [hsp]; simp)) hl2
  have hnm := fun w => sIsName_any (bs n0) w (by simp [maxLen]; omega)
  rw [bs_toList] at hnm
  cases hnb : isNameL n0
  · rw [tableOf_name hsp hnb]
    rw [hnb] at hnm
    exact rt_name s w tys.length (tys.length + 1) n0 (by omega) (by omega) (by omega) _ (by simp) hc hss hnm
  rw [hnb] at hnm
  by_cases h0 : tys.length = 0
  · rw [tableOf_nil hsp h0]
    refine (rt_one s w tys.length (tys.length + 1) n0 (by omega) (by omega) (by omega) ((n0 :: tys).map fun l => Value.string (bs l)) (by simp) (by simp) (fun w' _ ev => Err w' 1 ev) hc hss hnm (fun W => pclone_any (bs n0) W (by simpa using hn0)) (fun _ _ _ _ h hb => h.kept hb) ?_).mono ?_
    · intro o
      refine (readTypes_nil _ _ _).mono ?_
      rintro e w' ⟨⟨v, ev, g1, g0, g2⟩, g3⟩
      exact ⟨⟨v, ev, g1, g2, g0⟩, g3⟩
    · rintro e w' ⟨v, ev, W, g1, g2, g3, g4, g5, g6, rfl⟩
      exact ⟨⟨_, v, ev, g1, g3, g2.set2 g5 _ _⟩, (g6.setCell (by simp) _).setCell (by simp) _⟩
  · have hp : 1 ≤ tys.length := by omega
    refine (rt_types s w tys.length (tys.length + 1) n0 (by omega) (by omega) (by omega) ((n0 :: tys).map fun l => Value.string (bs l)) (by simp) (by simp)
      (fun w' v ev => (tys.all isType = true → ev = .nilIface ∧ w'.ownsRow (w.heap.size + 2) 185 1 v tys.length (tys.map tyv)) ∧ (tys.all isType = false → Err w' 1 ev)) hc hss hnm (fun W => pclone_any (bs n0) W (by simpa using hn0)) (fun _ _ _ _ h hb => ⟨fun e => ⟨(h.1 e).1, owns_below (h.1 e).2 hb⟩, fun e => (h.2 e).kept hb⟩) ?_).mono ?_
    · intro o
      have := readTypes_any (w.heap.size + 1) 1 tys.length tys ((w.alloc o).alloc (.cells ((n0 :: tys).map fun l => Value.string (bs l)).toArray 9)) hp htl (by simp) (fun j hj => by
        rw [World.cell?_alloc_at _ _ _ _ (by simp)]
        simp [List.getD, hj, Nat.add_comm 1 j])
      refine this.mono ?_
      rintro e w' ⟨⟨v, ev, g1, g0, g2, g3⟩, g4⟩
      exact ⟨⟨v, ev, g1, ⟨fun h => ⟨(g2 h).1, by simpa using (g2 h).2⟩, g3⟩, g0⟩, g4⟩
    · rintro e w' ⟨v, ev, W, g1, ⟨g2, g2'⟩, g3, g4, g5, g6, rfl⟩
      refine ⟨⟨_, v, ev, g1, g3, ?_⟩, (g6.setCell (by simp) _).setCell (by simp) _⟩
      cases hall : tys.all isType
      · rw [tableOf_types hsp hall]
        exact (g2' hall).set2 g5 _ _
      · rw [tableOf_yes hsp hnb hp (by omega) hall]
        obtain ⟨q1, q2⟩ := g2 hall
        refine ⟨q1, rfl, ?_⟩
        have := ownsRow_setCell_below (ownsRow_setCell_below q2 (a := ⟨w.heap.size, 0, none⟩) (by simp) (.string (bs n0))) (a := ⟨w.heap.size, 1, none⟩) (by simp) v
        have := owns_base this (show w.heap.size ≤ w.heap.size + 2 by omega)
        show World.ownsRow _ _ _ _ v (tys.map (· == sText)).length ((tys.map (· == sText)).map tcode)
        rw [List.length_map, List.map_map]
        exact this
end Go.Proofs.YtnpjldffciociaaGreatDoor
namespace Go.Proofs.YtnpjldffciociaaGreatDoor
open Go.RowKit

/-- The tables as they are being made. -/
def PTabs (w : World) (base : Nat) (v : Value) (ts : List (List UInt8 × List Bool)) : Prop :=
  ∃ tvs : List Value, tvs.length = ts.length ∧ w.ownsRow base 169 2 v ts.length (flatT ts tvs) ∧
    ∀ (j : Nat) (t : List UInt8 × List Bool) (tv : Value), ts[j]? = some t → tvs[j]? = some tv → w.ownsRow base 185 1 tv t.2.length (t.2.map tcode)

theorem PTabs.below {w w' : World} {base : Nat} {v : Value} {ts : List (List UInt8 × List Bool)} (h : PTabs w base v ts) (hb : Below w.heap.size w w') : PTabs w' base v ts := by
  obtain ⟨tvs, hl, ho, hr⟩ := h
  exact ⟨tvs, hl, owns_below ho hb, fun j t tv h1 h2 => owns_below (hr j t tv h1 h2) hb⟩

theorem PTabs.reads {w : World} {base : Nat} {v : Value} {ts : List (List UInt8 × List Bool)} (h : PTabs w base v ts) : ReadsTabs tcode w v ts := by
  obtain ⟨tvs, hl, ⟨hlen, ho⟩, hr⟩ := h
  rcases ho with ⟨rfl, h0⟩ | ⟨g, cap, cur, rfl, hb1, hh, hn, hm, hs, ht⟩
  · exact ⟨none, 0, by rw [h0], fun i t hi => by rw [List.eq_nil_of_length_eq_zero h0] at hi; simp at hi⟩
  · refine ⟨_, cap, rfl, fun i t hi => ?_⟩
    have hil : i < ts.length := (List.getElem?_eq_some_iff.1 hi).1
    have htv : tvs[i]? = some (tvs[i]'(by omega)) := List.getElem?_eq_getElem _
    have hf := flat_get ts tvs i t _ hi htv
    rw [← ht] at hf
    rw [List.getElem?_take_of_lt (by omega), List.getElem?_take_of_lt (by omega)] at hf
    refine ⟨g, 0, tvs[i]'(by omega), rfl, (Array.getElem?_eq_some_iff.1 hh).1, ?_, ?_, Reads.of_owns (hr i t _ hi htv)⟩
    · rw [Nat.zero_add]; simp only [World.cell?, hh]; simpa using hf.1
    · rw [Nat.zero_add]; simp only [World.cell?, hh]; simpa using hf.2

theorem PTabs.nil (w : World) (base : Nat) : PTabs w base (.slice none 0 0) [] := ⟨[], rfl, World.ownsRow_nil _ _ _ _, fun j t tv h => by simp at h⟩

theorem PTabs.grow2 {w w' : World} {base : Nat} {v v' tv : Value} {ts : List (List UInt8 × List Bool)} {t : List UInt8 × List Bool} {tvs : List Value} (hl : tvs.length = ts.length)
    (hr : w.ownsRow base 169 2 v ts.length (flatT ts tvs)) (hrs : ∀ (j : Nat) (t : List UInt8 × List Bool) (tv : Value), ts[j]? = some t → tvs[j]? = some tv → w.ownsRow base 185 1 tv t.2.length (t.2.map tcode))
    (ht : w.ownsRow base 185 1 tv t.2.length (t.2.map tcode))
    (hg : w.grownBy w' v.ownBlock) (ho : w'.ownsRow base 169 2 v' (ts.length + 1) (flatT ts tvs ++ [.string (bs t.1), tv])) : PTabs w' base v' (ts ++ [t]) := by
  refine ⟨tvs ++ [tv], by simp [hl], ?_, ?_⟩
  · rw [List.length_append, flat_snoc ts tvs hl]
    exact ho
  · intro j t' tv' h1 h2
    by_cases hj : j < ts.length
    · rw [List.getElem?_append_left hj] at h1
      rw [List.getElem?_append_left (by omega)] at h2
      exact (hrs j t' tv' h1 h2).kept hg (owns_apart (hrs j t' tv' h1 h2) hr (by decide))
    · have e1 : j = ts.length := by
        have := (List.getElem?_eq_some_iff.1 h1).1
        simp at this; omega
      subst e1
      rw [List.getElem?_append_right (Nat.le_refl _)] at h1
      rw [List.getElem?_append_right (by omega)] at h2
      simp at h1
      simp [hl] at h2
      subst h1 h2
      exact ht.kept hg (owns_apart ht hr (by decide))

set_option maxRecDepth 10000 in
set_option maxHeartbeats 1000000 in
theorem pFind_any (v : Value) (ts : List (List UInt8 × List Bool)) (name : List UInt8) (w : World) (hv : ReadsTabs tcode w v ts) (hl : ts.length ≤ 1048577) :
    Calls Tryz.prog 96 #[v, .string (bs name)] w fun e w' => e = .returned (.int .i64 (idxOf (findT ts name))) ∧ Below w.heap.size w w' := by
  obtain ⟨a, cap, rfl, hcell⟩ := hv
  have HCE : Hid _ := hcell
  clear hcell
  have hbs := bs_toList2
  go_enter Tryz.func96, Tryz.ntmps96
  go_wp2
  go_loopw [9] (fun i wr => ∃ (k : Nat), k ≤ ts.length ∧ i = .int .i64 k ∧ findT (ts.take k) name = none ∧ Below w.heap.size w wr) (fun i _ => ts.length - (intOf i).toNat)
  case atStart => exact ⟨0, Nat.zero_le _, rfl, rfl, Below.refl _ _⟩
  case round =>
    obtain ⟨k, hk, rfl, hnone, hbel⟩ := hrel
    have HN : Hid _ := hnone
    clear hnone
    by_cases hlt : k < ts.length
    · obtain ⟨b, off, tv, rfl, hbl, hc1, hc2, hr⟩ := HCE.out k ts[k] (List.getElem?_eq_getElem hlt)
      obtain ⟨nm, HNM⟩ : ∃ nm, Hid (ts[k].1 = nm) := exHid _
      rw [HNM.out] at hc1
      obtain ⟨at_, ct, rfl, _⟩ := hr
      rw [← hbel.cell (p := ⟨_, _, none⟩) hbl] at hc1 hc2
      have hsz := hbel.size
      by_cases hnn : nm = name
      · have hh : (nm == name) = true := by simp [hnn]
        have HF : Hid (findT ts name = some k) := Hid.mk (findT_hit hlt HN.out (by rw [HNM.out]; exact hnn))
        clear hnn
        go_wp2
        go_ret
        exact ⟨ret_int (by rw [HF.out]; rfl), hbel.alloc hsz _⟩
      · have hh : (nm == name) = false := by simp [hnn]
        have HF : Hid (findT (ts.take (k + 1)) name = none) := Hid.mk (findT_step hlt HN.out (by rw [HNM.out]; exact hnn))
        clear hnn
        go_wp2
        go_roundw
        case rel => exact ⟨k + 1, by omega, by go_num, HF.out, hbel.alloc hsz _⟩
        case measure => simp [intOf]; omega
    · go_wp2
      go_ret
      exact ⟨ret_int (by rw [List.take_of_length_le (by omega)] at HN; rw [HN.out]; rfl), hbel⟩
end Go.Proofs.YtnpjldffciociaaGreatDoor
namespace Go.Proofs.YtnpjldffciociaaGreatDoor
open Go.RowKit

theorem Tryz.infoPTab : (Tryz.prog.info? 169).map (fun i => (i.zero, i.size, i.bytes)) = some (some (.agg #[.string ByteArray.empty, .slice none 0 0]), 2, 40) := by kernel_rfl

theorem Err.form {w : World} {n : Int} {e : Value} (h : Err w n e) : ∃ t p, e = .iface t p := by
  obtain ⟨b, d, h⟩ := h
  exact h.form

theorem go_none {acc : List (List UInt8 × List Bool)} {p : List UInt8} {r : List (List UInt8)} (h : tableOf p = none) : schemaGo acc (p :: r) = none := by simp [schemaGo, h]
theorem go_twice {acc : List (List UInt8 × List Bool)} {p : List UInt8} {r : List (List UInt8)} {t : List UInt8 × List Bool} (h : tableOf p = some t) {j : Nat} (hf : findT acc t.1 = some j) : schemaGo acc (p :: r) = none := by simp [schemaGo, h, hf]
theorem go_more {acc : List (List UInt8 × List Bool)} {p : List UInt8} {r : List (List UInt8)} {t : List UInt8 × List Bool} (h : tableOf p = some t) (hf : findT acc t.1 = none) : schemaGo acc (p :: r) = schemaGo (acc ++ [t]) r := by simp [schemaGo, h, hf]
theorem go_len : ∀ (ps : List (List UInt8)) (acc ts : List (List UInt8 × List Bool)), schemaGo acc ps = some ts → ts.length = acc.length + ps.length := by
  intro ps
  induction ps with
  | nil => intro acc ts h; simp [schemaGo] at h; subst h; simp
  | cons p r ih =>
    intro acc ts h
    rw [schemaGo] at h
    split at h
    · cases h
    · split at h
      · cases h
      · have := ih _ ts h
        simp at this ⊢; omega

/-- What ReadSchema answers. -/
def SchemaAns (w : World) (o : Option (List (List UInt8 × List Bool))) (e : Ending) : Prop :=
  ∃ v ev, e = .returned (.tuple #[v, ev]) ∧ match o with
    | none => Err w 1 ev
    | some ts => ev = .nilIface ∧ ReadsTabs tcode w v ts

set_option maxRecDepth 10000 in
set_option maxHeartbeats 1000000 in
theorem rs_many (s : ByteArray) (w : World) (n : Nat) (hn : 6 ≤ n) (hn2 : n ≤ 4194304) (hc : ∀ w, Calls Tryz.prog 92 #[.string s, .string ⟨#[59]⟩] w fun e w' => e = .returned (.int .i64 n) ∧ w' = w) :
    Calls Tryz.prog 57 #[.string s] w fun e w' => SchemaAns w' none e ∧ Below w.heap.size w w' := by
  go_enter Tryz.func57, Tryz.ntmps57
  go_wp2_with (first
    | (go_at_call 92; refine (hc _).mono ?_; rintro e w' ⟨rfl, hw⟩; obtain rfl := hw.symm)
    | (go_at_call 93; refine (schemaFault_any _ _).mono ?_; rintro e w' ⟨rfl, rfl⟩))
  go_ret2
  exact ⟨⟨_, _, rfl, Err.new _ _ _⟩, by go_grown⟩

set_option maxRecDepth 10000 in
set_option maxHeartbeats 4000000 in
theorem rs_go (s : ByteArray) (w : World) (ps : List (List UInt8)) (n : Nat) (hn : n < 6) (hpl : ps.length = n + 1) (hg : Glob w) (hwl : ∀ p ∈ ps, p.length ≤ 1048576)
    (hc : ∀ w, Calls Tryz.prog 92 #[.string s, .string ⟨#[59]⟩] w fun e w' => e = .returned (.int .i64 n) ∧ w' = w)
    (hs : Calls Tryz.prog 94 #[.string s, .string ⟨#[59]⟩] w fun e w' => e = .returned (.slice (some ⟨w.heap.size, 0, none⟩) ps.length ps.length) ∧ w' = w.alloc (.cells (ps.map fun l => Value.string (bs l)).toArray 9)) :
    Calls Tryz.prog 57 #[.string s] w fun e w' => SchemaAns w' (schemaGo [] ps) e ∧ Below w.heap.size w w' := by
  obtain ⟨i0, hi0, hz0, hz1, hz2⟩ := info_parts Tryz.infoPTab
  have HG : Hid _ := hg
  have HW : Hid _ := hwl
  clear hg hwl
  obtain ⟨R, HR⟩ : ∃ R, Hid (schemaGo [] ps = R) := exHid _
  rw [HR.out]
  go_enter Tryz.func57, Tryz.ntmps57
  go_wp2_with (first
    | (go_at_call 92; refine (hc _).mono ?_; rintro e w' ⟨rfl, hw⟩; obtain rfl := hw.symm)
    | (go_at_call 94; refine hs.mono ?_; rintro e w' ⟨rfl, rfl⟩))
  obtain ⟨w1, HW1⟩ : ∃ w1, Hid (w.alloc (.cells (ps.map fun l => Value.string (bs l)).toArray 9) = w1) := exHid _
  have hb1 : Below w.heap.size w w1 := by rw [← HW1.out]; exact (Below.refl _ _).alloc (Nat.le_refl _) _
  have hz1' : w1.heap.size = w.heap.size + 1 := by rw [← HW1.out]; simp
  have HCP : Hid (∀ j (h : j < ps.length), w1.cell? ⟨w.heap.size, j, none⟩ = some (.string (bs ps[j]))) := Hid.mk fun j h => by
    rw [← HW1.out, World.cell?_alloc_at _ _ _ _ rfl]; simp [h]
  rw [HW1.out]
  have HZ : Hid _ := hz1'
  have hw1 : w.heap.size < w1.heap.size := by omega
  clear hz1' hs hc
  go_loopw [4, 16] (fun u i wr => ∃ (k : Nat) (acc : List (List UInt8 × List Bool)), k ≤ ps.length ∧ acc.length = k ∧ i = .int .i64 k ∧ R = schemaGo acc (ps.drop k) ∧ PTabs wr w1.heap.size u acc ∧ Below w1.heap.size w1 wr) (fun _ i _ => ps.length - (intOf i).toNat)
  case atStart => exact ⟨0, [], Nat.zero_le _, rfl, rfl, HR.out.symm, PTabs.nil _ _, Below.refl _ _⟩
  case round =>
    obtain ⟨k, acc, hk, hal, rfl, hgo, htab, hbel⟩ := hrel
    have HGO : Hid _ := hgo
    have HAL : Hid _ := hal
    clear hgo hal
    have hsz := hbel.size
    by_cases hlt : k < ps.length
    · obtain ⟨p, HP⟩ : ∃ p, Hid (ps[k] = p) := exHid _
      have hpw : p.length ≤ 1048576 := by rw [← HP.out]; exact HW.out _ (List.getElem_mem hlt)
      have hcp : wr.cell? ⟨w.heap.size, k, none⟩ = some (.string (bs p)) := by
        rw [hbel.cell (p := ⟨w.heap.size, k, none⟩) hw1, HCP.out k hlt, HP.out]
      have HD : Hid (R = schemaGo acc (p :: ps.drop (k + 1))) := Hid.mk (by rw [HGO.out, List.drop_eq_getElem_cons hlt, HP.out])
      have hrt := readTable_any (bs p) wr (by simpa using hpw) (Glob.kept (Glob.kept HG.out hb1) hbel)
      rw [bs_toList] at hrt
      have hkb : k ≤ 7 := by omega
      have hwk : w.heap.size ≤ w1.heap.size := by omega
      have hBel : ∀ wa, Below wr.heap.size wr wa → Below w.heap.size w wa := fun wa h => (hb1.trans (hbel.mono hwk)).trans (h.mono (Nat.le_trans hwk hsz))
      cases htb : tableOf p with
      | none =>
        have hRN : Hid (R = none) := Hid.mk (by rw [HD.out]; exact go_none htb)
        rw [htb] at hrt
        clear htb
        go_wp2_with (go_at_call 95; refine hrt.mono ?_; rintro e wa ⟨⟨nm, tv, ev, rfl, ⟨av, nv, cv, rfl⟩, hE⟩, hba⟩; obtain ⟨te, pe, rfl⟩ := hE.form; have HE : Hid _ := hE; clear hE)
        go_ret2
        rw [hRN.out]
        have hzz := hba.size
        exact ⟨⟨_, _, rfl, Err.wrap' (Err.kept (show Err wa 1 (.iface te pe) from HE.out) ((Below.refl _ _).alloc (Nat.le_refl _) _)) _ _ _ (by simp)⟩, ((hBel wa hba).alloc (by omega) _).alloc (by simp; omega) _⟩
      | some t =>
        rw [htb] at hrt
        have hfd : ∀ W, Below wr.heap.size wr W → Calls Tryz.prog 96 #[u4, .string (bs t.1)] W fun e w' => e = .returned (.int .i64 (idxOf (findT acc t.1))) ∧ Below W.heap.size W w' :=
          fun W h => pFind_any u4 acc t.1 W (htab.below h).reads (by rw [HAL.out]; omega)
        have HTB : Hid _ := htb
        clear htb
        cases hf : findT acc t.1 with
        | some j =>
          have hRN : Hid (R = none) := Hid.mk (by rw [HD.out]; exact go_twice HTB.out hf)
          rw [hf] at hfd
          simp only [idxOf] at hfd
          clear hf
          go_wp2_with (first
            | (go_at_call 95; refine hrt.mono ?_; rintro e wa ⟨⟨nm, tv, ev, rfl, ⟨av, nv, cv, rfl⟩, rfl, rfl, hot⟩, hba⟩; have hzz := hba.size; have HOT : Hid _ := hot; clear hot)
            | (go_at_call 96; refine (hfd _ (hba.alloc hzz _)).mono ?_; rintro e wb ⟨rfl, hbb⟩; have hzb := hbb.size)
            | (go_at_call 93; refine (schemaFault_any _ _).mono ?_; rintro e w' ⟨rfl, rfl⟩))
          go_ret2
          rw [hRN.out]
          have hzb' : wa.heap.size + 1 ≤ wb.heap.size := by simpa using hzb
          exact ⟨⟨_, _, rfl, Err.newWrap _ _ _ _ _⟩, ((((hBel wa hba).alloc (by omega) _).trans (hbb.mono (by simp; omega))).alloc (by omega) _).alloc (by simp; omega) _⟩
        | none =>
          have HGOOD : Hid (R = schemaGo (acc ++ [t]) (ps.drop (k + 1))) := Hid.mk (by rw [HD.out]; exact go_more HTB.out hf)
          rw [hf] at hfd
          simp only [idxOf] at hfd
          clear hf
          have hacc := HAL.out
          go_wp2_with (first
            | (go_at_call 95; refine hrt.mono ?_; rintro e wa ⟨⟨nm, tv, ev, rfl, ⟨av, nv, cv, rfl⟩, rfl, rfl, hot⟩, hba⟩; have hzz := hba.size; have HOT : Hid _ := hot; clear hot)
            | (go_at_call 96; refine (hfd _ (hba.alloc hzz _)).mono ?_; rintro e wb ⟨rfl, hbb⟩; have hzb := hbb.size; obtain ⟨hcc, _⟩ := bcell hbb; have hk0 : wb.cell? ⟨wa.heap.size, 0, none⟩ = some (.string (bs t.1)) := ((hcc wa.heap.size 0 (by simp)).trans (by simp)); have hk1 : wb.cell? ⟨wa.heap.size, 1, none⟩ = some (.slice av nv cv) := ((hcc wa.heap.size 1 (by simp)).trans (by simp)); have hzb' : wa.heap.size + 1 ≤ wb.heap.size := (by simpa using hzb); obtain ⟨tvs, htvl, htr, htrs⟩ := htab.below ((hba.alloc hzz _).trans (hbb.mono (by simp; omega))); have HTRS : Hid _ := htrs; clear htrs)
            | (at_builtin; refine wpList_append_own _ rfl _ _ 93 rfl w1.heap.size 169 i0 _ 2 40 Tryz.underlying93 hi0 hz0 hz1 hz2 rfl (by decide) _ _ _ rfl (htr.alloc _) ⟨wb.heap.size, 0, none⟩ 1 1 [.string (bs t.1), .slice av nv cv] rfl rfl (news_two ()) (by intro u hu; simp at hu; rcases hu with rfl | rfl; exact rfl; exact rfl) (by unfold maxLen; omega) (by omega) (by simp; omega) ?_; intro v6 w6 hown6 hgrow6 _))
          go_roundw
          case rel =>
            have hal3 : ∀ {o : Obj}, Below wb.heap.size wb (wb.alloc o) := fun {o} => (Below.refl _ _).alloc (Nat.le_refl _) o
            have hwa : Below wa.heap.size wa wb := ((Below.refl _ _).alloc (Nat.le_refl _) _).trans (hbb.mono (by simp))
            have hbw1 : Below w1.heap.size w1 wb := hbel.trans (((hba.mono hsz)).trans (hwa.mono (by omega)))
            refine ⟨k + 1, acc ++ [t], by omega, by simp [hacc], by go_num, HGOOD.out, ?_, ?_⟩
            · exact PTabs.grow2 (tv := .slice av nv cv) htvl (owns_below htr hal3) (fun j t tv h1 h2 => owns_below (HTRS.out j t tv h1 h2) hal3) (owns_base (owns_below (owns_below HOT.out hwa) hal3) hsz) hgrow6 hown6
            · exact ((hbw1.alloc (by omega) _).grown hgrow6 (by simp; omega) fun q hq => own_ge htr hq)
          case measure => simp [intOf]; omega
    · have hd : ps.drop k = [] := List.drop_of_length_le (by omega)
      have hR : R = some acc := by rw [HGO.out, hd]; rfl
      have hrd := htab.reads
      have HRD : Hid _ := hrd
      have HRR : Hid _ := hR
      clear hR hrd htab
      go_wp2
      go_ret2
      rw [HRR.out]
      exact ⟨⟨_, _, rfl, rfl, HRD.out⟩, hb1.trans (hbel.mono (by omega))⟩
end Go.Proofs.YtnpjldffciociaaGreatDoor
namespace Go.Proofs.YtnpjldffciociaaGreatDoor
open Go.RowKit

/-- THE PROGRAM's ReadSchema: the tables of the document's schema, or an error of number 1. -/
theorem readSchema_any (s : ByteArray) (w : World) (hs : s.size ≤ 1048576) (hg : Glob w) :
    Calls Tryz.prog 57 #[.string s] w fun e w' => SchemaAns w' (schemaP s.data.toList) e ∧ Below w.heap.size w w' := by
  have hl2 : s.data.toList.length ≤ 1048576 := by simpa using hs
  have hc := fun w => pcount_any s 59 w
  have hlen := spl_length 59 s.data.toList
  have hle := spl_length_le 59 s.data.toList
  have hmem := spl_mem_length 59 s.data.toList
  have hsp := psplit_any s 59 w (by omega) hg
  by_cases h6 : 6 ≤ s.data.toList.count 59
  · have e : schemaP s.data.toList = none := by
      unfold schemaP
      split
      · rfl
      · rename_i ts hts
        have := go_len _ _ _ hts
        simp at this
        rw [if_neg (by omega)]
    rw [e]
    exact rs_many s w _ h6 (by omega) hc
  · have e : schemaP s.data.toList = schemaGo [] (spl 59 s.data.toList) := by
      unfold schemaP
      split
      · rename_i h; exact h.symm
      · rename_i ts hts
        have := go_len _ _ _ hts
        simp at this
        rw [if_pos (by omega), hts]
    rw [e]
    exact rs_go s w _ _ (by omega) hlen hg (fun p hp => Nat.le_trans (hmem p hp) hl2) hc hsp
end Go.Proofs.YtnpjldffciociaaGreatDoor
