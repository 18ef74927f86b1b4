import Derived.Test.YtnpjldffciociaaGreatDoorB02
import Derived.Deep.QuietTactic
import Derived.BigQuiet
import Derived.Handy
namespace Go.Proofs.YtnpjldffciociaaGreatDoor
open Go.RowKit

/-- The i-th word; empty where there is none. -/
def wordAt (ws : List (List UInt8)) (i : Nat) : List UInt8 := (ws[i]?).getD []

theorem ret_str {a b : ByteArray} (h : a = b) : Ending.returned (.string a) = .returned (.string b) := by rw [h]

set_option maxRecDepth 10000 in
set_option maxHeartbeats 400000 in
theorem word_any (v : Value) (ws : List (List UInt8)) (i : Nat) (w : World) (hv : Reads w v (ws.map fun l => .string (bs l))) (_hl : ws.length ≤ 140737488355328) :
    Calls Tryz.prog 161 #[v, .int .i64 i] w fun e w' => e = .returned (.string (bs (wordAt ws i))) ∧ w' = w := by
  obtain ⟨a, cap, rfl, hcell⟩ := hv
  rw [List.length_map]
  by_cases hi : i < ws.length
  · obtain ⟨b, off, rfl, hbl, hc1⟩ := hcell i (.string (bs ws[i])) (by simp [hi])
    clear hcell
    have hw : wordAt ws i = ws[i] := by simp [wordAt, hi]
    rw [hw]
    clear hw
    go_enter Tryz.func161, Tryz.ntmps161
    go_wp2
    go_ret
    exact ⟨rfl, rfl⟩
  · clear hcell
    have hw : wordAt ws i = [] := by simp [wordAt, hi]
    rw [hw]
    clear hw
    go_enter Tryz.func161, Tryz.ntmps161
    go_wp2
    go_ret
    exact ⟨rfl, rfl⟩

/-- Which column a word names; none of so many. -/
def colOf (l : List UInt8) (n : Nat) : Option Nat :=
  match l with
  | [c] => if 49 ≤ c.toNat ∧ c.toNat ≤ 57 ∧ c.toNat - 48 ≤ n then some (c.toNat - 49) else none
  | _ => none

theorem colOf_lt {l : List UInt8} {n k : Nat} (h : colOf l n = some k) : k < n ∧ k < 9 := by
  unfold colOf at h
  split at h
  · split at h
    · simp at h; omega
    · cases h
  · cases h

set_option maxRecDepth 10000 in
set_option maxHeartbeats 400000 in
theorem column_any (s : ByteArray) (n : Nat) (w : World) (_hs : s.size ≤ maxLen) :
    Calls Tryz.prog 163 #[.string s, .int .i64 n] w fun e w' => e = .returned (.int .i64 (idxOf (colOf s.data.toList n))) ∧ w' = w := by
  by_cases h1 : s.size = 1
  · obtain ⟨c, hc⟩ : ∃ c, s.data.toList = [c] := by
      have : s.data.toList.length = 1 := by simpa using h1
      match h : s.data.toList, this with
      | [c], _ => exact ⟨c, rfl⟩
    have hg : s[0]'(by omega) = c := by
      have : s.data.toList[0]'(by rw [hc]; simp) = c := by simp [hc]
      exact this
    rw [hc]
    have HG : Hid (s[0]'(by omega) = c) := hg
    clear hc
    go_enter Tryz.func163, Tryz.ntmps163
    go_wp2
    all_goals
      go_ret
      refine ⟨ret_int ?_, rfl⟩
      simp only [colOf]
      split
      all_goals first | (simp only [idxOf]; omega) | (simp only [idxOf])
  · have hn : colOf s.data.toList n = none := by
      unfold colOf
      split
      · rename_i c h; exact absurd (by have := congrArg List.length h; simpa using this) h1
      · rfl
    rw [hn]
    clear hn
    go_enter Tryz.func163, Tryz.ntmps163
    go_wp2
    go_ret
    exact ⟨rfl, rfl⟩

set_option maxRecDepth 10000 in
set_option maxHeartbeats 400000 in
theorem alike_any (v v' : Value) (xs ys : List Bool) (w : World) (hv : Reads w v (xs.map .bool)) (hv' : Reads w v' (ys.map .bool)) (hl : xs.length ≤ 140737488355328) (hl' : ys.length ≤ 140737488355328) :
    Calls Tryz.prog 208 #[v, v'] w fun e w' => e = .returned (.bool (xs == ys)) ∧ ∃ n, w' = w.drewN n := by
  obtain ⟨a, cap, rfl, hcell⟩ := hv
  obtain ⟨a', cap', rfl, hcell'⟩ := hv'
  rw [List.length_map, List.length_map]
  have H1 : Hid _ := hcell
  have H2 : Hid _ := hcell'
  clear hcell hcell'
  by_cases hlen : xs.length = ys.length
  · rw [hlen]
    go_enter Tryz.func208, Tryz.ntmps208
    go_wp2
    go_loopw [5] (fun i wr => ∃ (k n : Nat), k ≤ ys.length ∧ i = .int .i64 k ∧ wr = w.drewN n ∧ xs.take k = ys.take k) (fun i _ => ys.length - (intOf i).toNat)
    case atStart => exact ⟨0, 0, Nat.zero_le _, rfl, rfl, rfl⟩
    case round =>
      obtain ⟨k, n, hk, rfl, rfl, hsame⟩ := hrel
      have HN : Hid (xs.take k = ys.take k) := hsame
      clear hsame
      by_cases hlt : k < ys.length
      · obtain ⟨b, off, rfl, hbl, hc1⟩ := H1.out k (.bool (xs[k]'(by omega))) (by simp [show k < xs.length by omega])
        obtain ⟨b', off', rfl, hbl', hc2⟩ := H2.out k (.bool (ys[k])) (by simp [hlt])
        have hlti : (k : Int) < (ys.length : Int) := by omega
        generalize hx : xs[k]'(by omega) = x at hc1
        generalize hy : ys[k] = y at hc2
        have HX : Hid _ := hx
        have HY : Hid _ := hy
        clear hx hy
        go_wp2
        go_quiet (fail)
        cases x <;> cases y
        all_goals go_wp2
        all_goals first
          | (go_roundw
             case rel =>
               refine ⟨k + 1, n + nq, by omega, by go_num, by first | rfl | simp, ?_⟩
               rw [List.take_succ_eq_append_getElem (by omega), List.take_succ_eq_append_getElem hlt, HX.out, HY.out, HN.out]
             case measure => simp [intOf]; omega)
          | (go_ret
             refine ⟨ret_bool ?_, n + nq, by first | rfl | simp⟩
             symm
             rw [beq_eq_false_iff_ne]
             intro h
             subst h
             have := HX.out.symm.trans HY.out
             cases this)
      · go_wp2
        go_ret
        refine ⟨ret_bool ?_, n, rfl⟩
        have := HN.out
        rw [List.take_of_length_le (by omega), List.take_of_length_le (by omega)] at this
        simp [this]
  · have hne : (xs == ys) = false := by
      rw [beq_eq_false_iff_ne]; intro h; exact hlen (by rw [h])
    rw [hne]
    go_enter Tryz.func208, Tryz.ntmps208
    go_wp2
    go_ret
    exact ⟨rfl, 0, rfl⟩
end Go.Proofs.YtnpjldffciociaaGreatDoor
namespace Go.Proofs.YtnpjldffciociaaGreatDoor
open Go.RowKit

theorem Hid.mk {p : Prop} (h : p) : Hid p := h
theorem exHid {α : Type} (a : α) : ∃ x, Hid (a = x) := ⟨a, Hid.mk rfl⟩
theorem Tryz.infoBool : (Tryz.prog.info? 4).map (fun i => (i.zero, i.size, i.bytes)) = some (some (.bool false), 1, 1) := by kernel_rfl
theorem Tryz.infoInt : (Tryz.prog.info? 3).map (fun i => (i.zero, i.size, i.bytes)) = some (some (.int .i64 0), 1, 8) := by kernel_rfl

/-- A number as an int. -/
abbrev i64v (c : Nat) : Value := .int .i64 (c : Int)

/-- The types of some columns. -/
def pickB (xs : List Bool) (cols : List Nat) : List Bool := cols.map fun c => xs.getD c false

set_option maxRecDepth 10000 in
set_option maxHeartbeats 1000000 in
theorem some_any (v vc : Value) (xs : List Bool) (cols : List Nat) (w : World) (hv : Reads w v (xs.map .bool)) (hvc : Reads w vc (cols.map i64v))
    (_hl : xs.length ≤ 1048577) (hl' : cols.length ≤ 1048577) (hin : ∀ c ∈ cols, c < xs.length) :
    Calls Tryz.prog 207 #[v, vc] w fun e w' => ∃ v', e = .returned v' ∧ w'.ownsRow w.heap.size 4 1 v' cols.length ((pickB xs cols).map Value.bool) ∧ Below w.heap.size w w' := by
  obtain ⟨i0, hi, hz0, hz1, hz2⟩ := info_parts Tryz.infoBool
  obtain ⟨a, cap, rfl, hcell⟩ := hv
  obtain ⟨a', cap', rfl, hcell'⟩ := hvc
  rw [List.length_map, List.length_map]
  have H1 : Hid _ := hcell
  have H2 : Hid _ := hcell'
  have HI : Hid _ := hin
  clear hcell hcell' hin
  go_enter Tryz.func207, Tryz.ntmps207
  go_wp2
  go_loopw [5, 6] (fun u i wr => ∃ (k : Nat), k ≤ cols.length ∧ i = .int .i64 k ∧ wr.ownsRow w.heap.size 4 1 u k ((pickB xs (cols.take k)).map Value.bool) ∧ Below w.heap.size w wr) (fun _ i _ => cols.length - (intOf i).toNat)
  case atStart => exact ⟨0, Nat.zero_le _, rfl, World.ownsRow_nil _ _ _ _, Below.refl _ _⟩
  case round =>
    obtain ⟨k, hk, rfl, hown, hbel⟩ := hrel
    by_cases hlt : k < cols.length
    · obtain ⟨c0, HC0⟩ : ∃ c0, Hid (cols[k] = c0) := exHid _
      have hcx : c0 < xs.length := by rw [← HC0.out]; exact HI.out cols[k] (List.getElem_mem hlt)
      obtain ⟨x0, HX0⟩ : ∃ x0, Hid (xs[c0] = x0) := exHid _
      obtain ⟨b', off', rfl, hbl', hc2⟩ := H2.out k (i64v c0) (by rw [List.getElem?_map, List.getElem?_eq_getElem hlt, HC0.out]; rfl)
      obtain ⟨b, off, rfl, hbl, hc1⟩ := H1.out c0 (.bool x0) (by rw [List.getElem?_map, List.getElem?_eq_getElem hcx, HX0.out]; rfl)
      rw [← hbel.cell (p := ⟨_, _, none⟩) hbl'] at hc2
      rw [← hbel.cell (p := ⟨_, _, none⟩) hbl] at hc1
      have hT : Hid ((pickB xs (cols.take (k + 1))) = pickB xs (cols.take k) ++ [x0]) := by
        show _ = _
        rw [List.take_succ_eq_append_getElem hlt, HC0.out, ← HX0.out]
        simp [pickB, hcx]
      go_wp2_with (at_builtin; refine append_one rfl _ _ 117 rfl w.heap.size 4 i0 (.bool false) 1 Tryz.underlying117 hi hz0 hz1 hz2 rfl _ _ _ rfl hown (.bool x0) rfl rfl (by unfold maxLen; omega) (by omega) hbel.size ?_; intro v' w1 hown' hb1 _)
      go_roundw
      case rel =>
        refine ⟨k + 1, by omega, by go_num, ?_, hbel.trans hb1⟩
        rw [hT.out, List.map_append]; exact hown'
      case measure => simp [intOf]; omega
    · go_wp2
      go_ret
      rw [List.take_of_length_le (by omega)] at hown
      refine ⟨_, rfl, ?_, hbel⟩
      have : k = cols.length := by omega
      rw [← this]; exact hown

/-- COLS: the columns of a list. -/
def colsOf (l : List UInt8) (n : Nat) : Option (List Nat) := if l = [45] then some [] else (spl 44 l).mapM fun p => colOf p n

theorem mapM_none {ps : List (List UInt8)} {n k : Nat} (hk : k < ps.length) (h : colOf ps[k] n = none) : (ps.mapM fun p => colOf p n) = none := by
  induction ps generalizing k with
  | nil => simp at hk
  | cons p r ih =>
    cases k with
    | zero => simp at h; simp [List.mapM_cons, h]
    | succ k =>
      simp at h hk
      rw [List.mapM_cons]
      cases colOf p n with
      | none => rfl
      | some c => simp [ih hk h]
theorem mapM_snoc {ps : List (List UInt8)} {n : Nat} {p : List UInt8} {cs : List Nat} {c : Nat} (h : (ps.mapM fun p => colOf p n) = some cs) (hc : colOf p n = some c) : ((ps ++ [p]).mapM fun p => colOf p n) = some (cs ++ [c]) := by
  rw [List.mapM_append, h]; simp [hc]
theorem mapM_len {ps : List (List UInt8)} {n : Nat} {cs : List Nat} (h : (ps.mapM fun p => colOf p n) = some cs) : cs.length = ps.length := by
  induction ps generalizing cs with
  | nil => simp at h; simp [h]
  | cons p r ih =>
    rw [List.mapM_cons] at h
    cases hp : colOf p n with
    | none => simp [hp] at h
    | some c =>
      cases h1 : (r.mapM fun p => colOf p n) with
      | none => simp [hp, h1] at h
      | some d =>
      simp [hp, h1] at h
      subst h
      simp [ih h1]
theorem mapM_lt {ps : List (List UInt8)} {n : Nat} {cs : List Nat} (h : (ps.mapM fun p => colOf p n) = some cs) : ∀ c ∈ cs, c < n := by
  induction ps generalizing cs with
  | nil => simp at h; simp [h]
  | cons p r ih =>
    rw [List.mapM_cons] at h
    cases hp : colOf p n with
    | none => simp [hp] at h
    | some c =>
      cases h1 : (r.mapM fun p => colOf p n) with
      | none => simp [hp, h1] at h
      | some d =>
      simp [hp, h1] at h
      subst h
      intro x hx
      rcases List.mem_cons.1 hx with rfl | hx
      · exact (colOf_lt hp).1
      · exact ih h1 x hx

/-- What 'columns' answers. -/
def ColsAns (w : World) (_B : Nat) (r : Option (List Nat)) (v : Value) : Prop :=
  match r with
  | some cs => ∃ u, v = .tuple #[u, .bool true] ∧ Reads w u (cs.map i64v)
  | none => v = .tuple #[.slice none 0 0, .bool false]

set_option maxRecDepth 10000 in
set_option maxHeartbeats 1000000 in
theorem columns_any (s : ByteArray) (n : Nat) (w : World) (hs : s.size ≤ 1048577) :
    Calls Tryz.prog 206 #[.string s, .int .i64 n] w fun e w' => ∃ v', e = .returned v' ∧ ColsAns w' w.heap.size (colsOf s.data.toList n) v' ∧ Below w.heap.size w w' := by
  obtain ⟨i0, hi, hz0, hz1, hz2⟩ := info_parts Tryz.infoInt
  by_cases hd : s.data.toList = [45]
  · have hd' : (s.toList == [45]) = true := by simp [ByteArray.toList_eq, hd]
    have hr : colsOf s.data.toList n = some [] := by simp [colsOf, hd]
    rw [hr]
    clear hd hr
    go_enter Tryz.func206, Tryz.ntmps206
    go_wp2
    go_ret2
    exact ⟨_, rfl, ⟨_, rfl, Reads.nil _⟩, Below.refl _ _⟩
  · have hd' : (s.toList == [45]) = false := by simp [ByteArray.toList_eq, hd]
    have hr : colsOf s.data.toList n = (spl 44 s.data.toList).mapM fun p => colOf p n := by simp [colsOf, hd]
    have hlen := spl_length_le 44 s.data.toList
    have hlen2 : (spl 44 s.data.toList).length ≤ s.size + 1 := by simpa using hlen
    have hml := spl_mem_length 44 s.data.toList
    have HM : Hid (∀ x ∈ spl 44 s.data.toList, x.length ≤ s.size) := Hid.mk (by simpa using hml)
    rw [hr]
    have hsp := split_any s 44 w (by omega)
    generalize spl 44 s.data.toList = ps at *
    clear hd hr hlen hml
    go_enter Tryz.func206, Tryz.ntmps206
    go_wp2_with (go_at_call 103; refine hsp.mono ?_; rintro e w1 ⟨vp, rfl, hownp, hbp⟩)
    obtain ⟨a, cap, rfl, hcell⟩ := Reads.of_owns hownp
    clear hownp
    have H1 : Hid _ := hcell
    clear hcell
    rw [List.length_map]
    go_loopw [6, 8] (fun u i wr => ∃ (k : Nat) (cs : List Nat), k ≤ ps.length ∧ i = .int .i64 k ∧ ((ps.take k).mapM fun p => colOf p n) = some cs ∧ wr.ownsRow w1.heap.size 3 1 u k (cs.map i64v) ∧ Below w1.heap.size w1 wr) (fun _ i _ => ps.length - (intOf i).toNat)
    case atStart => exact ⟨0, [], Nat.zero_le _, rfl, rfl, World.ownsRow_nil _ _ _ _, Below.refl _ _⟩
    case round =>
      obtain ⟨k, cs, hk, rfl, hcs, hown, hbel⟩ := hrel
      have HC : Hid _ := hcs
      clear hcs
      by_cases hlt : k < ps.length
      · obtain ⟨b, off, rfl, hbl, hc1⟩ := H1.out k (.string (bs ps[k])) (by simp [hlt])
        rw [← hbel.cell (p := ⟨_, _, none⟩) hbl] at hc1
        have hcol := column_any (bs ps[k]) n wr (by have := HM.out ps[k] (List.getElem_mem hlt); simp [maxLen]; omega)
        rw [bs_toList] at hcol
        cases hcc : colOf ps[k] n with
        | none =>
          rw [hcc] at hcol
          simp only [idxOf] at hcol
          go_wp2_with (go_at_call 163; refine hcol.mono ?_; rintro e w' ⟨rfl, rfl⟩)
          go_ret2
          refine ⟨_, rfl, ?_, (hbp.trans (hbel.mono hbp.size))⟩
          rw [mapM_none hlt hcc]; rfl
        | some c =>
          rw [hcc] at hcol
          simp only [idxOf] at hcol
          have HH : Hid _ := hcc
          clear hcc
          have hc0 := (colOf_lt HH.out).2
          go_wp2_with (first
            | (go_at_call 163; refine hcol.mono ?_; rintro e w' ⟨rfl, rfl⟩)
            | (at_builtin; refine append_one rfl _ _ 27 rfl w1.heap.size 3 i0 (.int .i64 0) 8 Tryz.underlying27 hi hz0 hz1 hz2 rfl _ _ _ rfl hown (.int .i64 c) rfl rfl (by unfold maxLen; omega) (by omega) hbel.size ?_; intro v' w2 hown' hb1 _))
          go_roundw
          case rel =>
            refine ⟨k + 1, cs ++ [c], by omega, by go_num, ?_, ?_, hbel.trans hb1⟩
            · rw [List.take_succ_eq_append_getElem hlt]; exact mapM_snoc HC.out HH.out
            · rw [List.map_append]; exact hown'
          case measure => simp [intOf]; omega
      · go_wp2
        go_ret2
        refine ⟨_, rfl, ?_, (hbp.trans (hbel.mono hbp.size))⟩
        have h := HC.out
        rw [List.take_of_length_le (by omega)] at h
        rw [h]
        exact ⟨_, rfl, Reads.of_owns hown⟩
end Go.Proofs.YtnpjldffciociaaGreatDoor
