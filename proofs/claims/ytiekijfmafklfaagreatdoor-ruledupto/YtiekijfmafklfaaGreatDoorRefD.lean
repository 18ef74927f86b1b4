import Derived.Test.YtiekijfmafklfaaGreatDoorRefC
namespace Go.Proofs.YtiekijfmafklfaaGreatDoor
open Go.RowKit

theorem Hid.mk {p : Prop} (h : p) : Hid p := h
theorem exHid {α : Type} (a : α) : ∃ x, Hid (a = x) := ⟨a, Hid.mk rfl⟩
theorem Tryz.infoBool : (Tryz.prog.info? 4).map (fun i => (i.zero, i.size, i.bytes)) = some (some (.bool false), 1, 1) := by kernel_rfl
theorem Tryz.infoInt : (Tryz.prog.info? 3).map (fun i => (i.zero, i.size, i.bytes)) = some (some (.int .i64 0), 1, 8) := by kernel_rfl

/-- A number as an int. -/
abbrev i64v (c : Nat) : Value := .int .i64 (c : Int)

/-- The types of some columns. -/
def pickB (xs : List Bool) (cols : List Nat) : List Bool := cols.map fun c => xs.getD c false

set_option maxRecDepth 10000 in
set_option maxHeartbeats 1000000 in
theorem some_any (v vc : Value) (xs : List Bool) (cols : List Nat) (w : World) (hv : Reads w v (xs.map .bool)) (hvc : Reads w vc (cols.map i64v))
    (_hl : xs.length ≤ 1048577) (hl' : cols.length ≤ 1048577) (hin : ∀ c ∈ cols, c < xs.length) :
    Calls Tryz.prog 84 #[v, vc] w fun e w' => ∃ v', e = .returned v' ∧ w'.ownsRow w.heap.size 4 1 v' cols.length ((pickB xs cols).map Value.bool) ∧ Below w.heap.size w w' := by
  obtain ⟨i0, hi, hz0, hz1, hz2⟩ := info_parts Tryz.infoBool
  obtain ⟨a, cap, rfl, hcell⟩ := hv
  obtain ⟨a', cap', rfl, hcell'⟩ := hvc
  rw [List.length_map, List.length_map]
  have H1 : Hid _ := hcell
  have H2 : Hid _ := hcell'
  have HI : Hid _ := hin
  clear hcell hcell' hin
  go_enter Tryz.func84, Tryz.ntmps84
  go_wp2
  go_loopw [5, 6] (fun u i wr => ∃ (k : Nat), k ≤ cols.length ∧ i = .int .i64 k ∧ wr.ownsRow w.heap.size 4 1 u k ((pickB xs (cols.take k)).map Value.bool) ∧ Below w.heap.size w wr) (fun _ i _ => cols.length - (intOf i).toNat)
  case atStart => exact ⟨0, Nat.zero_le _, rfl, World.ownsRow_nil _ _ _ _, Below.refl _ _⟩
  case round =>
    obtain ⟨k, hk, rfl, hown, hbel⟩ := hrel
    by_cases hlt : k < cols.length
    · obtain ⟨c0, HC0⟩ : ∃ c0, Hid (cols[k] = c0) := exHid _
      have hcx : c0 < xs.length := by rw [← HC0.out]; exact HI.out cols[k] (List.getElem_mem hlt)
      obtain ⟨x0, HX0⟩ : ∃ x0, Hid (xs[c0] = x0) := exHid _
      obtain ⟨b', off', rfl, hbl', hc2⟩ := H2.out k (i64v c0) (by rw [List.getElem?_map, List.getElem?_eq_getElem hlt, HC0.out]; rfl)
      obtain ⟨b, off, rfl, hbl, hc1⟩ := H1.out c0 (.bool x0) (by rw [List.getElem?_map, List.getElem?_eq_getElem hcx, HX0.out]; rfl)
      rw [← hbel.cell (p := ⟨_, _, none⟩) hbl'] at hc2
      rw [← hbel.cell (p := ⟨_, _, none⟩) hbl] at hc1
      have hT : Hid ((pickB xs (cols.take (k + 1))) = pickB xs (cols.take k) ++ [x0]) := by
        show _ = _
        rw [List.take_succ_eq_append_getElem hlt, HC0.out, ← HX0.out]
        simp [pickB, hcx]
      go_wp2_with (at_builtin; refine append_one rfl _ _ 52 rfl w.heap.size 4 i0 (.bool false) 1 Tryz.underlying52 hi hz0 hz1 hz2 rfl _ _ _ rfl hown (.bool x0) rfl rfl (by unfold maxLen; omega) (by omega) hbel.size ?_; intro v' w1 hown' hb1 _)
      go_roundw
      case rel =>
        refine ⟨k + 1, by omega, by go_num, ?_, hbel.trans hb1⟩
        rw [hT.out, List.map_append]; exact hown'
      case measure => simp [intOf]; omega
    · go_wp2
      go_ret
      rw [List.take_of_length_le (by omega)] at hown
      refine ⟨_, rfl, ?_, hbel⟩
      have : k = cols.length := by omega
      rw [← this]; exact hown

/-- COLS: the columns of a list. -/
def colsOf (l : List UInt8) (n : Nat) : Option (List Nat) := if l = [45] then some [] else (spl 44 l).mapM fun p => colOf p n

theorem mapM_none {ps : List (List UInt8)} {n k : Nat} (hk : k < ps.length) (h : colOf ps[k] n = none) : (ps.mapM fun p => colOf p n) = none := by
  induction ps generalizing k with
  | nil => simp at hk
  | cons p r ih =>
    cases k with
    | zero => simp at h; simp [List.mapM_cons, h]
    | succ k =>
      simp at h hk
      rw [List.mapM_cons]
      cases colOf p n with
      | none => rfl
      | some c => simp [ih hk h]
theorem mapM_snoc {ps : List (List UInt8)} {n : Nat} {p : List UInt8} {cs : List Nat} {c : Nat} (h : (ps.mapM fun p => colOf p n) = some cs) (hc : colOf p n = some c) : ((ps ++ [p]).mapM fun p => colOf p n) = some (cs ++ [c]) := by
  rw [List.mapM_append, h]; simp [hc]
theorem mapM_len {ps : List (List UInt8)} {n : Nat} {cs : List Nat} (h : (ps.mapM fun p => colOf p n) = some cs) : cs.length = ps.length := by
  induction ps generalizing cs with
  | nil => simp at h; simp [h]
  | cons p r ih =>
    rw [List.mapM_cons] at h
    cases hp : colOf p n with
    | none => simp [hp] at h
    | some c =>
      cases h1 : (r.mapM fun p => colOf p n) with
      | none => simp [hp, h1] at h
      | some d =>
      simp [hp, h1] at h
      subst h
      simp [ih h1]
theorem mapM_lt {ps : List (List UInt8)} {n : Nat} {cs : List Nat} (h : (ps.mapM fun p => colOf p n) = some cs) : ∀ c ∈ cs, c < n := by
  induction ps generalizing cs with
  | nil => simp at h; simp [h]
  | cons p r ih =>
    rw [List.mapM_cons] at h
    cases hp : colOf p n with
    | none => simp [hp] at h
    | some c =>
      cases h1 : (r.mapM fun p => colOf p n) with
      | none => simp [hp, h1] at h
      | some d =>
      simp [hp, h1] at h
      subst h
      intro x hx
      rcases List.mem_cons.1 hx with rfl | hx
      · exact (colOf_lt hp).1
      · exact ih h1 x hx

/-- What 'columns' answers. -/
def ColsAns (w : World) (_B : Nat) (r : Option (List Nat)) (v : Value) : Prop :=
  match r with
  | some cs => ∃ u, v = .tuple #[u, .bool true] ∧ Reads w u (cs.map i64v)
  | none => v = .tuple #[.slice none 0 0, .bool false]

set_option maxRecDepth 10000 in
set_option maxHeartbeats 1000000 in
theorem columns_any (s : ByteArray) (n : Nat) (w : World) (hs : s.size ≤ 1048577) :
    Calls Tryz.prog 83 #[.string s, .int .i64 n] w fun e w' => ∃ v', e = .returned v' ∧ ColsAns w' w.heap.size (colsOf s.data.toList n) v' ∧ Below w.heap.size w w' := by
  obtain ⟨i0, hi, hz0, hz1, hz2⟩ := info_parts Tryz.infoInt
  by_cases hd : s.data.toList = [45]
  · have hd' : (s.toList == [45]) = true := by simp [ByteArray.toList_eq, hd]
    have hr : colsOf s.data.toList n = some [] := by simp [colsOf, hd]
    rw [hr]
    clear hd hr
    go_enter Tryz.func83, Tryz.ntmps83
    go_wp2
    go_ret2
    exact ⟨_, rfl, ⟨_, rfl, Reads.nil _⟩, Below.refl _ _⟩
  · have hd' : (s.toList == [45]) = false := by simp [ByteArray.toList_eq, hd]
    have hr : colsOf s.data.toList n = (spl 44 s.data.toList).mapM fun p => colOf p n := by simp [colsOf, hd]
    have hlen := spl_length_le 44 s.data.toList
    have hlen2 : (spl 44 s.data.toList).length ≤ s.size + 1 := by simpa using hlen
    have hml := spl_mem_length 44 s.data.toList
    have HM : Hid (∀ x ∈ spl 44 s.data.toList, x.length ≤ s.size) := Hid.mk (by simpa using hml)
    rw [hr]
    have hsp := split_any s 44 w (by omega)
    generalize spl 44 s.data.toList = ps at *
    clear hd hr hlen hml
    go_enter Tryz.func83, Tryz.ntmps83
    go_wp2_with (go_at_call 32; refine hsp.mono ?_; rintro e w1 ⟨vp, rfl, hownp, hbp⟩)
    obtain ⟨a, cap, rfl, hcell⟩ := Reads.of_owns hownp
    clear hownp
    have H1 : Hid _ := hcell
    clear hcell
    rw [List.length_map]
    go_loopw [6, 8] (fun u i wr => ∃ (k : Nat) (cs : List Nat), k ≤ ps.length ∧ i = .int .i64 k ∧ ((ps.take k).mapM fun p => colOf p n) = some cs ∧ wr.ownsRow w1.heap.size 3 1 u k (cs.map i64v) ∧ Below w1.heap.size w1 wr) (fun _ i _ => ps.length - (intOf i).toNat)
    case atStart => exact ⟨0, [], Nat.zero_le _, rfl, rfl, World.ownsRow_nil _ _ _ _, Below.refl _ _⟩
    case round =>
      obtain ⟨k, cs, hk, rfl, hcs, hown, hbel⟩ := hrel
      have HC : Hid _ := hcs
      clear hcs
      by_cases hlt : k < ps.length
      · obtain ⟨b, off, rfl, hbl, hc1⟩ := H1.out k (.string (bs ps[k])) (by simp [hlt])
        rw [← hbel.cell (p := ⟨_, _, none⟩) hbl] at hc1
        have hcol := column_any (bs ps[k]) n wr (by have := HM.out ps[k] (List.getElem_mem hlt); simp [maxLen]; omega)
        rw [bs_toList] at hcol
        cases hcc : colOf ps[k] n with
        | none =>
          rw [hcc] at hcol
          simp only [idxOf] at hcol
          go_wp2_with (go_at_call 63; refine hcol.mono ?_; rintro e w' ⟨rfl, rfl⟩)
          go_ret2
          refine ⟨_, rfl, ?_, (hbp.trans (hbel.mono hbp.size))⟩
          rw [mapM_none hlt hcc]; rfl
        | some c =>
          rw [hcc] at hcol
          simp only [idxOf] at hcol
          have HH : Hid _ := hcc
          clear hcc
          have hc0 := (colOf_lt HH.out).2
          go_wp2_with (first
            | (go_at_call 63; refine hcol.mono ?_; rintro e w' ⟨rfl, rfl⟩)
            | (at_builtin; refine append_one rfl _ _ 44 rfl w1.heap.size 3 i0 (.int .i64 0) 8 Tryz.underlying44 hi hz0 hz1 hz2 rfl _ _ _ rfl hown (.int .i64 c) rfl rfl (by unfold maxLen; omega) (by omega) hbel.size ?_; intro v' w2 hown' hb1 _))
          go_roundw
          case rel =>
            refine ⟨k + 1, cs ++ [c], by omega, by go_num, ?_, ?_, hbel.trans hb1⟩
            · rw [List.take_succ_eq_append_getElem hlt]; exact mapM_snoc HC.out HH.out
            · rw [List.map_append]; exact hown'
          case measure => simp [intOf]; omega
      · go_wp2
        go_ret2
        refine ⟨_, rfl, ?_, (hbp.trans (hbel.mono hbp.size))⟩
        have h := HC.out
        rw [List.take_of_length_le (by omega)] at h
        rw [h]
        exact ⟨_, rfl, Reads.of_owns hown⟩
end Go.Proofs.YtiekijfmafklfaaGreatDoor
