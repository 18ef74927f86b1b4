import Derived.Test.YtnpjldffciociaaGreatDoorC18
namespace Go.Proofs.YtnpjldffciociaaGreatDoor
open Go.RowKit

abbrev rdRow (vs vw : Value) (taken errno : Int) (rule : Bool) : Array Value := #[vs, vw, .int .i64 taken, .int .i64 errno, .bool rule]
/-- The world in which ReadView begins to read. -/
abbrev rvWorld (w : World) (vs : Value) (ps : List (List UInt8)) : World := (w.alloc (.cells (rdRow vs (.slice (some ⟨w.heap.size + 1, 0, none⟩) ps.length ps.length) 0 3 false) 182)).alloc (.cells (ps.map fun l => Value.string (bs l)).toArray 9)

theorem Err.newAt (w : World) (n : Int) (s : ByteArray) (m : Nat) (hm : m = w.heap.size) : Err (w.alloc (.cells #[.int .i64 n, .string s] 179)) n (.iface 175 (.pointer (some ⟨m, 0, none⟩))) := by
  subst hm; exact Err.new w n s
set_option maxRecDepth 10000 in
set_option maxHeartbeats 1000000 in
theorem rv_many (a : Option Addr) (n cap : Nat) (s : ByteArray) (w : World) (k : Nat) (h60 : 60 ≤ k) (hk : k ≤ 4194304)
    (hc : ∀ w, Calls Tryz.prog 92 #[.string s, .string ⟨#[32]⟩] w fun e w' => e = .returned (.int .i64 k) ∧ w' = w) :
    Calls Tryz.prog 59 #[.slice a n cap, .string s] w fun e w' => (∃ te pe, e = .returned (.tuple #[.pointer none, .iface te pe]) ∧ Err w' 3 (.iface te pe)) ∧ Below w.heap.size w w' := by
  have h60' : (60 : Int) ≤ (k : Int) := by omega
  go_enter Tryz.func59, Tryz.ntmps59
  go_wp2_with (first
    | (go_at_call 92; with_reducible refine (hc _).mono ?_; rintro e w' ⟨rfl, hw⟩; obtain rfl := hw.symm)
    | (go_at_call 98; with_reducible refine (pfault_any _ w.heap.size 3 _ ?hr).mono ?_; (case hr => simp); rintro e w' ⟨rfl, rfl⟩))
  go_ret2
  exact ⟨⟨_, _, rfl, Err.newAt _ _ _ _ (by simp)⟩, ((Below.refl _ _).alloc (Nat.le_refl _) _).alloc (by simp) _⟩
set_option maxRecDepth 10000 in
set_option maxHeartbeats 1000000 in
theorem rv_no (a : Option Addr) (n cap : Nat) (s : ByteArray) (w : World) (k : Nat) (ps : List (List UInt8)) (h60 : k < 60) (R : Value → World → Prop)
    (hc : ∀ w, Calls Tryz.prog 92 #[.string s, .string ⟨#[32]⟩] w fun e w' => e = .returned (.int .i64 k) ∧ w' = w)
    (hs : ∀ o, Calls Tryz.prog 94 #[.string s, .string ⟨#[32]⟩] (w.alloc o) fun e w' => e = .returned (.slice (some ⟨w.heap.size + 1, 0, none⟩) ps.length ps.length) ∧ w' = (w.alloc o).alloc (.cells (ps.map fun l => Value.string (bs l)).toArray 9))
    (hv : Calls Tryz.prog 99 #[.pointer (some ⟨w.heap.size, 0, none⟩)] (rvWorld w (.slice a n cap) ps) fun e w' => ∃ te pe, e = .returned (.tuple #[.pointer none, .iface te pe]) ∧ R (.iface te pe) w') :
    Calls Tryz.prog 59 #[.slice a n cap, .string s] w fun e w' => ∃ te pe, e = .returned (.tuple #[.pointer none, .iface te pe]) ∧ R (.iface te pe) w' := by
  have h60' : ¬ ((60 : Int) ≤ (k : Int)) := by omega
  go_enter Tryz.func59, Tryz.ntmps59
  go_wp2_with (first
    | (go_at_call 92; with_reducible refine (hc _).mono ?_; rintro e w' ⟨rfl, hw⟩; obtain rfl := hw.symm)
    | (go_at_call 94; refine (hs _).mono ?_; rintro e w' ⟨rfl, rfl⟩)
    | (go_at_call 99; refine hv.mono ?_; rintro e w1 ⟨te, pe, rfl, hR⟩))
  go_ret2
  exact ⟨te, pe, rfl, hR⟩
set_option maxRecDepth 10000 in
set_option maxHeartbeats 1000000 in
theorem rv_end (a : Option Addr) (n cap : Nat) (s : ByteArray) (w : World) (k : Nat) (ps : List (List UInt8)) (h60 : k < 60) (P : World → Prop) (R : Value → World → Prop)
    (hc : ∀ w, Calls Tryz.prog 92 #[.string s, .string ⟨#[32]⟩] w fun e w' => e = .returned (.int .i64 k) ∧ w' = w)
    (hs : ∀ o, Calls Tryz.prog 94 #[.string s, .string ⟨#[32]⟩] (w.alloc o) fun e w' => e = .returned (.slice (some ⟨w.heap.size + 1, 0, none⟩) ps.length ps.length) ∧ w' = (w.alloc o).alloc (.cells (ps.map fun l => Value.string (bs l)).toArray 9))
    (hv : Calls Tryz.prog 99 #[.pointer (some ⟨w.heap.size, 0, none⟩)] (rvWorld w (.slice a n cap) ps) fun e w' => ∃ b, e = .returned (.tuple #[.pointer (some ⟨b, 0, none⟩), .nilIface]) ∧ P w')
    (he : ∀ w1, P w1 → Calls Tryz.prog 100 #[.pointer (some ⟨w.heap.size, 0, none⟩)] w1 fun e w' => ∃ te pe, e = .returned (.iface te pe) ∧ R (.iface te pe) w') :
    Calls Tryz.prog 59 #[.slice a n cap, .string s] w fun e w' => ∃ te pe, e = .returned (.tuple #[.pointer none, .iface te pe]) ∧ R (.iface te pe) w' := by
  have h60' : ¬ ((60 : Int) ≤ (k : Int)) := by omega
  go_enter Tryz.func59, Tryz.ntmps59
  go_wp2_with (first
    | (go_at_call 92; with_reducible refine (hc _).mono ?_; rintro e w' ⟨rfl, hw⟩; obtain rfl := hw.symm)
    | (go_at_call 94; refine (hs _).mono ?_; rintro e w' ⟨rfl, rfl⟩)
    | (go_at_call 99; refine hv.mono ?_; rintro e w1 ⟨b, rfl, hP⟩)
    | (go_at_call 100; refine (he _ hP).mono ?_; rintro e w2 ⟨te, pe, rfl, hR⟩))
  go_ret2
  exact ⟨te, pe, rfl, hR⟩
set_option maxRecDepth 10000 in
set_option maxHeartbeats 1000000 in
theorem rv_yes (a : Option Addr) (n cap : Nat) (s : ByteArray) (w : World) (k : Nat) (ps : List (List UInt8)) (h60 : k < 60) (P : Nat → World → Prop)
    (hc : ∀ w, Calls Tryz.prog 92 #[.string s, .string ⟨#[32]⟩] w fun e w' => e = .returned (.int .i64 k) ∧ w' = w)
    (hs : ∀ o, Calls Tryz.prog 94 #[.string s, .string ⟨#[32]⟩] (w.alloc o) fun e w' => e = .returned (.slice (some ⟨w.heap.size + 1, 0, none⟩) ps.length ps.length) ∧ w' = (w.alloc o).alloc (.cells (ps.map fun l => Value.string (bs l)).toArray 9))
    (hv : Calls Tryz.prog 99 #[.pointer (some ⟨w.heap.size, 0, none⟩)] (rvWorld w (.slice a n cap) ps) fun e w' => ∃ b, e = .returned (.tuple #[.pointer (some ⟨b, 0, none⟩), .nilIface]) ∧ P b w')
    (he : ∀ b w1, P b w1 → Calls Tryz.prog 100 #[.pointer (some ⟨w.heap.size, 0, none⟩)] w1 fun e w' => e = .returned .nilIface ∧ P b w') :
    Calls Tryz.prog 59 #[.slice a n cap, .string s] w fun e w' => ∃ b, e = .returned (.tuple #[.pointer (some ⟨b, 0, none⟩), .nilIface]) ∧ P b w' := by
  have h60' : ¬ ((60 : Int) ≤ (k : Int)) := by omega
  go_enter Tryz.func59, Tryz.ntmps59
  go_wp2_with (first
    | (go_at_call 92; with_reducible refine (hc _).mono ?_; rintro e w' ⟨rfl, hw⟩; obtain rfl := hw.symm)
    | (go_at_call 94; refine (hs _).mono ?_; rintro e w' ⟨rfl, rfl⟩)
    | (go_at_call 99; refine hv.mono ?_; rintro e w1 ⟨b, rfl, hP⟩)
    | (go_at_call 100; refine (he _ _ hP).mono ?_; rintro e w2 ⟨rfl, hP2⟩))
  go_ret2
  exact ⟨b, rfl, hP2⟩

theorem rv_rx (w : World) (vs : Value) (ps : List (List UInt8)) (hl : ps.length ≤ 1048577) (hw : ∀ l ∈ ps, l.length ≤ 1048577) :
    RX w (rvWorld w vs ps) vs (.slice (some ⟨w.heap.size + 1, 0, none⟩) ps.length ps.length) ps 0 3 false ∧ Below w.heap.size w (rvWorld w vs ps) := by
  have hb : Below w.heap.size w (rvWorld w vs ps) := ((Below.refl _ _).alloc (Nat.le_refl _) _).alloc (by simp) _
  have h0 : ∀ i, (rvWorld w vs ps).cell? ⟨w.heap.size, i, none⟩ = (rdRow vs (.slice (some ⟨w.heap.size + 1, 0, none⟩) ps.length ps.length) 0 3 false)[i]? := fun i => by
    rw [World.cell?_alloc_lt _ _ _ (by simp), World.cell?_alloc_at _ _ _ _ rfl]
  refine ⟨⟨⟨h0 0, h0 1, h0 2, h0 3, h0 4, ?_, by simp; omega⟩, hb, ?_, hl, hw⟩, hb⟩
  · rw [World.frozen?_alloc_old _ _ _ (by simp)]
    simp
  · refine ⟨some ⟨w.heap.size + 1, 0, none⟩, ps.length, by simp, fun i u hu => ⟨w.heap.size + 1, 0, rfl, by omega, by simp, ?_⟩⟩
    rw [World.cell?_alloc_at _ _ _ _ (by simp)]
    simpa using hu
end Go.Proofs.YtnpjldffciociaaGreatDoor
namespace Go.Proofs.YtnpjldffciociaaGreatDoor
open Go.RowKit

/-- What ReadView answers. -/
def RvAns (w : World) (o : Option (List Bool)) (e : Ending) (w' : World) : Prop :=
  (match o with
    | none => ∃ te pe, e = .returned (.tuple #[.pointer none, .iface te pe]) ∧ Err w' 3 (.iface te pe)
    | some xs => ∃ b, e = .returned (.tuple #[.pointer (some ⟨b, 0, none⟩), .nilIface]) ∧ VwAt w.heap.size w' b xs) ∧ Below w.heap.size w w'

/-- THE PROGRAM's ReadView. -/
theorem readView_any (vs : Value) (ts : List (List UInt8 × List Bool)) (s : ByteArray) (w : World) (hs : s.size ≤ 1048576) (hg : Glob w) (hts : ReadsTabs tcode w vs ts) (hl : ts.length ≤ 1048577) (hlc : ∀ t, (ts.getD t ([], [])).2.length ≤ 9) (hlp : ∀ t, t < ts.length → 1 ≤ (ts.getD t ([], [])).2.length) (hn : ∀ t ∈ ts, t.1 ≠ []) :
    Calls Tryz.prog 59 #[vs, .string s] w fun e w' => RvAns w (typesTop ts s.data.toList) e w' := by
  obtain ⟨a0, cap0, rfl, hrow⟩ := id hts
  have hl2 : s.data.toList.length ≤ 1048576 := by simpa using hs
  have hc := fun w => pcount_any s 32 w
  have hlen := spl_length 32 s.data.toList
  have hle := spl_length_le 32 s.data.toList
  have hmem := spl_mem_length 32 s.data.toList
  by_cases h60 : 60 ≤ s.data.toList.count 32
  · have e : typesTop ts s.data.toList = none := by
      unfold typesTop
      rw [if_pos (by omega)]
    rw [e]
    refine (rv_many a0 _ cap0 s w _ h60 (by omega) hc).mono ?_
    rintro e w' ⟨h, hb⟩
    exact ⟨h, hb⟩
  · have hsp : ∀ o, Calls Tryz.prog 94 #[.string s, .string ⟨#[32]⟩] (w.alloc o) fun e w' => e = .returned (.slice (some ⟨w.heap.size + 1, 0, none⟩) (spl 32 s.data.toList).length (spl 32 s.data.toList).length) ∧ w' = (w.alloc o).alloc (.cells ((spl 32 s.data.toList).map fun l => Value.string (bs l)).toArray 9) := fun o => by
      have := psplit_any s 32 (w.alloc o) (by omega) (hg.kept ((Below.refl _ _).alloc (Nat.le_refl _) o))
      simpa using this
    obtain ⟨hX, hbW⟩ := rv_rx w (.slice a0 ts.length cap0) (spl 32 s.data.toList) (by omega) (fun l h => by have := hmem l h; omega)
    have hv := xview w (.slice a0 ts.length cap0) _ (w.heap.size + 1) ts (spl 32 s.data.toList) 3 hg hts hl (fun t => Nat.le_trans (hlc t) (by decide)) hlp hn rfl ((spl 32 s.data.toList).length + 1) _ 0 (by omega) (Nat.zero_le _) hX
    rw [top_eq ts hn hlc s.data.toList (by omega) ((spl 32 s.data.toList).length + 1) (by omega)]
    have hbel : ∀ w', Stp w.heap.size (rvWorld w (.slice a0 ts.length cap0) (spl 32 s.data.toList)) w' → Below w.heap.size w w' := fun w' hS => hbW.trans (hS.below hbW.size)
    cases hp : parseV ts (spl 32 s.data.toList) ((spl 32 s.data.toList).length + 1) 0 with
    | none =>
      rw [hp] at hv
      refine (rv_no a0 _ cap0 s w _ _ (by omega) (fun v w' => Err w' 3 v ∧ Below w.heap.size w w') hc hsp (hv.mono ?_)).mono ?_
      · rintro e w' ⟨⟨te, pe, rfl, hE⟩, hS⟩; exact ⟨te, pe, rfl, hE, hbel w' hS⟩
      · rintro e w' ⟨te, pe, rfl, hE, hb⟩
        exact ⟨⟨te, pe, rfl, hE⟩, hb⟩
    | some p =>
      obtain ⟨xs, j⟩ := p
      rw [hp] at hv
      simp only
      by_cases hj : (spl 32 s.data.toList).length ≤ j
      · rw [if_pos hj]
        refine (rv_yes a0 _ cap0 s w _ _ (by omega) (fun b w' => VwAt w.heap.size w' b xs ∧ RX w w' (.slice a0 ts.length cap0) (.slice (some ⟨w.heap.size + 1, 0, none⟩) (spl 32 s.data.toList).length (spl 32 s.data.toList).length) (spl 32 s.data.toList) j 3 false ∧ Below w.heap.size w w') hc hsp (hv.mono ?_) fun b w1 hP => (xend w w1 _ _ _ j 3 false hP.2.1).mono ?_).mono ?_
        · rintro e w' ⟨⟨b, rfl, hA, hX'⟩, hS⟩
          exact ⟨b, rfl, hA, hX', hbel w' hS⟩
        · rintro e w' ⟨he, hb⟩
          rw [if_pos hj] at he
          exact ⟨he, hP.1.stp (Stp.of_below hb), hP.2.1.below hb, hP.2.2.trans (hb.mono hP.2.2.size)⟩
        · rintro e w' ⟨b, rfl, hA, _, hb⟩
          exact ⟨⟨b, rfl, hA⟩, hb⟩
      · rw [if_neg hj]
        refine (rv_end a0 _ cap0 s w _ _ (by omega) (fun w' => RX w w' (.slice a0 ts.length cap0) (.slice (some ⟨w.heap.size + 1, 0, none⟩) (spl 32 s.data.toList).length (spl 32 s.data.toList).length) (spl 32 s.data.toList) j 3 false ∧ Below w.heap.size w w') (fun v w' => Err w' 3 v ∧ Below w.heap.size w w') hc hsp (hv.mono ?_) fun w1 hP => (xend w w1 _ _ _ j 3 false hP.1).mono ?_).mono ?_
        · rintro e w' ⟨⟨b, rfl, hA, hX'⟩, hS⟩
          exact ⟨b, rfl, hX', hbel w' hS⟩
        · rintro e w' ⟨he, hb⟩
          rw [if_neg hj] at he
          obtain ⟨te, pe, rfl, hE⟩ := he
          exact ⟨te, pe, rfl, hE, hP.2.trans (hb.mono hP.2.size)⟩
        · rintro e w' ⟨te, pe, rfl, hE, hb⟩
          exact ⟨⟨te, pe, rfl, hE⟩, hb⟩

theorem Tryz.infoStrV : (Tryz.prog.info? 9).map (fun i => (i.zero, i.size, i.bytes)) = some (some (.string ByteArray.empty), 1, 16) := by kernel_rfl
theorem lib_join (c : List UInt8) (l : List (List UInt8)) : Lib.join l c = joinL c l := by
  induction l with
  | nil => rfl
  | cons a r ih =>
    cases r with
    | nil => simp [Lib.join, joinL, List.intercalate]
    | cons b r =>
      rw [joinL, ← ih]
      simp [Lib.join, List.intercalate]
set_option maxRecDepth 10000 in
set_option maxHeartbeats 1000000 in
theorem ptypeWord (b : Bool) (w : World) : Calls Tryz.prog 101 #[.int .i64 (tnum b)] w fun e w' => e = .returned (.string (bs (tword b))) ∧ w' = w := by
  cases b
  · show Calls Tryz.prog 101 #[.int .i64 1] w fun e w' => e = .returned (.string (bs wInt)) ∧ w' = w
    go_enter Tryz.func101, Tryz.ntmps101
    go_wp2
    go_ret
    exact ⟨rfl, rfl⟩
  · show Calls Tryz.prog 101 #[.int .i64 2] w fun e w' => e = .returned (.string (bs wText)) ∧ w' = w
    go_enter Tryz.func101, Tryz.ntmps101
    go_wp2
    go_ret
    exact ⟨rfl, rfl⟩
set_option maxRecDepth 10000 in
set_option maxHeartbeats 2000000 in
theorem typeWords_any (v : Value) (xs : List Bool) (w : World) (hv : Reads w v (xs.map tcode)) (hl : xs.length ≤ 9) :
    Calls Tryz.prog 60 #[v] w fun e w' => e = .returned (.string (bs (joinL [32] (xs.map tword)))) ∧ Below w.heap.size w w' := by
  obtain ⟨i0, hi0, hz0, hz1, hz2⟩ := info_parts Tryz.infoStrV
  obtain ⟨va, vc, rfl, hcell⟩ := hv
  rw [List.length_map]
  have HV := hidR hcell
  clear hcell
  go_enter Tryz.func60, Tryz.ntmps60
  go_wp2_with (at_make; refine wpList_make_full _ rfl _ _ 26 rfl w.heap.size 9 i0 _ 1 Tryz.underlying26 hi0 hz0 hz1 _ _ _ _ xs.length rfl rfl rfl rfl (by rw [hz2]; omega) (by unfold maxLen; omega) (Nat.le_refl _) ?_; intro w3 hown3 hgrow3)
  have hb3 : Below w.heap.size w w3 := (Below.refl _ _).grown hgrow3 (Nat.le_refl _) (by intro k hk; cases hk)
  have hlt3 : w.heap.size < w3.heap.size := by
    obtain ⟨_, ⟨h, _⟩ | ⟨g, cap, cur, h, hb, hh, _⟩⟩ := hown3
    · cases h
    · simp at h
      obtain ⟨rfl, _⟩ := h
      exact (Array.getElem?_eq_some_iff.1 hh).1
  clear hgrow3
  go_loopw [11] (fun i wr => ∃ (k : Nat) (R : List Value), k ≤ xs.length ∧ i = .int .i64 k ∧ R.length = xs.length ∧ R.take k = (xs.take k).map (fun b => Value.string (bs (tword b))) ∧ wr.ownsRow w.heap.size 9 1 (.slice (some ⟨w.heap.size, 0, none⟩) xs.length xs.length) xs.length R ∧ Below w.heap.size w wr ∧ w.heap.size < wr.heap.size) (fun i _ => xs.length - (intOf i).toNat)
  case atStart =>
    refine ⟨0, _, Nat.zero_le _, rfl, ?_, rfl, hown3, hb3, hlt3⟩
    have := hown3.1
    simpa using this
  case round =>
    obtain ⟨k, R, hk, rfl, hRl, hRt, hown, hbel, hltr⟩ := hrel
    have HR : Hid _ := hRt
    have HRl : Hid _ := hRl
    clear hRt hRl hown3 hlt3
    by_cases hlt : k < xs.length
    · obtain ⟨x, HX⟩ : ∃ x, Hid (xs[k] = x) := exHid _
      obtain ⟨ub, uoff, rfl, hub, hcu⟩ := HV.out k (tcode x) (by simp [hlt, HX.out])
      have hcu' : wr.cell? ⟨ub, uoff + k, none⟩ = some (.int .i64 (tnum x)) := (hbel.cell (p := ⟨ub, uoff + k, none⟩) hub).trans hcu
      have hta := ptypeWord x wr
      have hst := hown.stored k (.string (bs (tword x)))
      have hfz := hown.frozenAt k
      have hce := hown.cellAt k (by omega)
      have hRk : R[k]? = some (R[k]'(by rw [HRl.out]; exact hlt)) := List.getElem?_eq_getElem _
      rw [hRk] at hce
      have HS : Hid _ := hst.1
      clear hst hown hRk hcu
      generalize R[k]'(by rw [HRl.out]; exact hlt) = old at hce
      go_wp2_with (go_at_call 101; refine hta.mono ?_; rintro e w' ⟨rfl, hw⟩; obtain rfl := hw.symm)
      go_roundw
      case rel =>
        refine ⟨k + 1, R.set k (.string (bs (tword x))), by omega, by go_num, by simp [HRl.out], ?_, HS.out, hbel.setCell (by simp) _, by simpa using hltr⟩
        rw [take_set_step R k _ (by rw [HRl.out]; exact hlt) _ HR.out, List.take_succ_eq_append_getElem hlt, List.map_append, HX.out]
        rfl
      case measure => simp [intOf]; omega
    · have hR2 : R = xs.map (fun b => Value.string (bs (tword b))) := by
        have := HR.out
        rwa [List.take_of_length_le (by rw [HRl.out]; omega), List.take_of_length_le (by omega)] at this
      subst hR2
      have hj : Calls Tryz.prog 102 #[.slice (some ⟨w.heap.size, 0, none⟩) xs.length xs.length, .string ⟨#[32]⟩] wr fun e w' => e = .returned (.string (bs (joinL [32] (xs.map tword)))) ∧ Below wr.heap.size wr w' := by
        have hlb : (Lib.join ((xs.map fun b => bs (tword b)).map (·.data.toList)) [32]).length ≤ 140737488355328 := by
          rw [List.map_map, lib_join]
          have := joinL_len [32] (by decide) (xs.map tword) (fun y hy => by obtain ⟨b, _, rfl⟩ := List.mem_map.1 hy; cases b <;> decide)
          rw [List.length_map] at this
          exact Nat.le_trans this (by omega)
        have := Tryz.strings_Join w.heap.size 0 xs.length (xs.map fun b => bs (tword b)) ⟨#[32]⟩ wr (fun j x hx => by
          have hc := hown.cellAt j (by
            have := (List.getElem?_eq_some_iff.1 hx).1
            simp at this; omega)
          rw [Nat.zero_add, hc, List.getElem?_map]
          rw [List.getElem?_map] at hx
          cases hxj : xs[j]? with
          | none => rw [hxj] at hx; cases hx
          | some b => rw [hxj] at hx; cases hx; rfl) hltr (by simp; omega) (by simp) hlb
        rw [List.length_map, List.map_map] at this
        rw [show ((⟨#[32]⟩ : ByteArray).data.toList) = [32] from rfl, lib_join] at this
        exact this
      clear hown
      go_wp2_with (go_at_call 102; refine hj.mono ?_; rintro e w5 ⟨rfl, hb5⟩)
      go_ret
      exact ⟨rfl, hbel.trans (hb5.mono hbel.size)⟩
end Go.Proofs.YtnpjldffciociaaGreatDoor
namespace Go.Proofs.YtnpjldffciociaaGreatDoor
open Go.RowKit

theorem tableOf_named {p : List UInt8} {t : List UInt8 × List Bool} (h : tableOf p = some t) : t.1 ≠ [] := by
  unfold tableOf at h
  split at h
  · cases h
  · split at h
    · rename_i hc
      simp at hc
      cases h
      intro e
      simp only at e
      rw [e] at hc
      exact absurd hc.1.1.1 (by decide)
    · cases h
theorem schemaGo_named : ∀ (ps : List (List UInt8)) (acc ts : List (List UInt8 × List Bool)), (∀ t ∈ acc, t.1 ≠ []) → schemaGo acc ps = some ts → ∀ t ∈ ts, t.1 ≠ [] := by
  intro ps
  induction ps with
  | nil => intro acc ts ha h; simp [schemaGo] at h; subst h; exact ha
  | cons p r ih =>
    intro acc ts ha h
    rw [schemaGo] at h
    split at h
    · cases h
    · rename_i t ht
      split at h
      · cases h
      · refine ih _ ts ?_ h
        intro x hx
        rcases List.mem_append.1 hx with hx | hx
        · exact ha x hx
        · simp at hx; subst hx; exact tableOf_named ht
theorem schemaP_named {l : List UInt8} {ts : List (List UInt8 × List Bool)} (h : schemaP l = some ts) : ∀ t ∈ ts, t.1 ≠ [] := by
  unfold schemaP at h
  split at h
  · cases h
  · rename_i us hu
    split at h
    · cases h; exact schemaGo_named _ _ _ (by simp) hu
    · cases h

set_option maxRecDepth 10000 in
set_option maxHeartbeats 1000000 in
theorem pck_schema (a b : ByteArray) (w : World) (n : Int)
    (h1 : Calls Tryz.prog 57 #[.string a] w fun e w' => ∃ v te pe, e = .returned (.tuple #[v, .iface te pe]) ∧ Below w.heap.size w w' ∧ Calls Tryz.prog 58 #[.iface te pe] w' fun ev w'' => ev = .returned (.int .i64 n) ∧ Below w'.heap.size w' w'') :
    Calls Tryz.prog 33 #[.string a, .string b] w fun e w' => e = .returned (.tuple #[.string (bs []), .int .i64 n]) ∧ Below w.heap.size w w' := by
  go_enter Tryz.func33, Tryz.ntmps33
  go_wp2_with (first
    | (go_at_call 57; refine h1.mono ?_; rintro e w1 ⟨v, te, pe, rfl, hb1, hc⟩)
    | (go_at_call 58; refine hc.mono ?_; rintro e w2 ⟨rfl, hb2⟩))
  go_ret2
  exact ⟨rfl, hb1.trans (hb2.mono hb1.size)⟩
set_option maxRecDepth 10000 in
set_option maxHeartbeats 1000000 in
theorem pck_view (a b : ByteArray) (w : World) (n : Int) (P : World → Value → Prop)
    (h1 : Calls Tryz.prog 57 #[.string a] w fun e w' => ∃ v, e = .returned (.tuple #[v, .nilIface]) ∧ P w' v ∧ Below w.heap.size w w')
    (h2 : ∀ w1 v, P w1 v → Below w.heap.size w w1 → Calls Tryz.prog 59 #[v, .string b] w1 fun e w' => ∃ te pe, e = .returned (.tuple #[.pointer none, .iface te pe]) ∧ Below w1.heap.size w1 w' ∧ Calls Tryz.prog 58 #[.iface te pe] w' fun er w'' => er = .returned (.int .i64 n) ∧ Below w'.heap.size w' w'') :
    Calls Tryz.prog 33 #[.string a, .string b] w fun e w' => e = .returned (.tuple #[.string (bs []), .int .i64 n]) ∧ Below w.heap.size w w' := by
  go_enter Tryz.func33, Tryz.ntmps33
  go_wp2_with (first
    | (go_at_call 57; refine h1.mono ?_; rintro e w1 ⟨v, rfl, hP, hb1⟩)
    | (go_at_call 59; refine (h2 _ _ hP hb1).mono ?_; rintro e w2 ⟨te, pe, rfl, hb2, hc⟩)
    | (go_at_call 58; refine hc.mono ?_; rintro e w3 ⟨rfl, hb3⟩))
  go_ret2
  exact ⟨rfl, (hb1.trans (hb2.mono hb1.size)).trans (hb3.mono (Nat.le_trans hb1.size hb2.size))⟩
set_option maxRecDepth 10000 in
set_option maxHeartbeats 1000000 in
theorem pck_ok (a b : ByteArray) (w : World) (l : List UInt8) (P : World → Value → Prop)
    (h1 : Calls Tryz.prog 57 #[.string a] w fun e w' => ∃ v, e = .returned (.tuple #[v, .nilIface]) ∧ P w' v ∧ Below w.heap.size w w')
    (h2 : ∀ w1 v, P w1 v → Below w.heap.size w w1 → Calls Tryz.prog 59 #[v, .string b] w1 fun e w' => ∃ c tv, e = .returned (.tuple #[.pointer (some ⟨c, 0, none⟩), .nilIface]) ∧ w'.cell? ⟨c, 6, none⟩ = some tv ∧ Below w1.heap.size w1 w' ∧ Calls Tryz.prog 60 #[tv] w' fun er w'' => er = .returned (.string (bs l)) ∧ Below w'.heap.size w' w'') :
    Calls Tryz.prog 33 #[.string a, .string b] w fun e w' => e = .returned (.tuple #[.string (bs l), .int .i64 0]) ∧ Below w.heap.size w w' := by
  go_enter Tryz.func33, Tryz.ntmps33
  go_wp2_with (first
    | (go_at_call 57; refine h1.mono ?_; rintro e w1 ⟨v, rfl, hP, hb1⟩)
    | (go_at_call 59; refine (h2 _ _ hP hb1).mono ?_; rintro e w2 ⟨c, tv, rfl, k6, hb2, hc⟩)
    | (go_at_call 60; refine hc.mono ?_; rintro e w3 ⟨rfl, hb3⟩))
  go_ret2
  exact ⟨rfl, (hb1.trans (hb2.mono hb1.size)).trans (hb3.mono (Nat.le_trans hb1.size hb2.size))⟩

/-- THE PROGRAM's Check. -/
theorem check_any (a b : ByteArray) (w : World) (ha : a.size ≤ 1048576) (hb : b.size ≤ 1048576) (hg : Glob w) :
    Calls Tryz.prog 33 #[.string a, .string b] w fun e w' => e = .returned (.tuple #[.string (bs (checkP a.data.toList b.data.toList).1), .int .i64 (checkP a.data.toList b.data.toList).2]) ∧ Below w.heap.size w w' := by
  have h1 := readSchema_any a w ha hg
  unfold checkP
  cases hs : schemaP a.data.toList with
  | none =>
    rw [hs] at h1
    refine pck_schema a b w 1 (h1.mono ?_)
    rintro e w' ⟨⟨v, ev, rfl, hE⟩, hb'⟩
    have hE' : Err w' 1 ev := hE
    obtain ⟨te, pe, rfl⟩ := hE'.form
    exact ⟨v, te, pe, rfl, hb', errnoOf_err 1 _ w' hE' (hg.kept hb')⟩
  | some ts =>
    rw [hs] at h1
    obtain ⟨o1, o2⟩ := schemaP_ok hs
    obtain ⟨o3, o4⟩ := tabs_lc o2
    have h1' : Calls Tryz.prog 57 #[.string a] w fun e w' => ∃ v, e = .returned (.tuple #[v, .nilIface]) ∧ ReadsTabs tcode w' v ts ∧ Below w.heap.size w w' := by
      refine h1.mono ?_
      rintro e w' ⟨⟨v, ev, rfl, hE, hR⟩, hb'⟩
      have : ev = .nilIface := hE
      subst this
      exact ⟨v, rfl, hR, hb'⟩
    have h2 := fun w1 v (hv : ReadsTabs tcode w1 v ts) (hb1 : Below w.heap.size w w1) => readView_any v ts b w1 hb (hg.kept hb1) hv (by omega) (fun t => Nat.le_trans (o3 t) (by decide)) o4 (schemaP_named hs)
    simp only
    cases ht : typesTop ts b.data.toList with
    | none =>
      rw [ht] at h2
      refine pck_view a b w 3 _ h1' fun w1 v hv hb1 => (h2 w1 v hv hb1).mono ?_
      rintro e w' ⟨⟨te, pe, rfl, hE⟩, hb'⟩
      exact ⟨te, pe, rfl, hb', errnoOf_err 3 _ w' hE ((hg.kept hb1).kept hb')⟩
    | some xs =>
      rw [ht] at h2
      have hx9 := typesTop_le ht
      refine pck_ok a b w _ _ h1' fun w1 v hv hb1 => (h2 w1 v hv hb1).mono ?_
      rintro e w' ⟨⟨c, rfl, tv, hne, hc6, htv⟩, hb'⟩
      exact ⟨c, tv, rfl, hc6, hb', typeWords_any tv xs w' htv.reads hx9⟩
end Go.Proofs.YtnpjldffciociaaGreatDoor
