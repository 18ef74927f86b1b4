import Derived.Test.YtiekijfmafklfaaGreatDoorRefB
import Derived.Deep.QuietTactic
import Derived.BigQuiet
import Derived.Handy
namespace Go.Proofs.YtiekijfmafklfaaGreatDoor
open Go.RowKit

/-- The i-th word; empty where there is none. -/
def wordAt (ws : List (List UInt8)) (i : Nat) : List UInt8 := (ws[i]?).getD []

theorem ret_str {a b : ByteArray} (h : a = b) : Ending.returned (.string a) = .returned (.string b) := by rw [h]

set_option maxRecDepth 10000 in
set_option maxHeartbeats 400000 in
theorem word_any (v : Value) (ws : List (List UInt8)) (i : Nat) (w : World) (hv : Reads w v (ws.map fun l => .string (bs l))) (_hl : ws.length ≤ 140737488355328) :
    Calls Tryz.prog 61 #[v, .int .i64 i] w fun e w' => e = .returned (.string (bs (wordAt ws i))) ∧ w' = w := by
  obtain ⟨a, cap, rfl, hcell⟩ := hv
  rw [List.length_map]
  by_cases hi : i < ws.length
  · obtain ⟨b, off, rfl, hbl, hc1⟩ := hcell i (.string (bs ws[i])) (by simp [hi])
    clear hcell
    have hw : wordAt ws i = ws[i] := by simp [wordAt, hi]
    rw [hw]
    clear hw
    go_enter Tryz.func61, Tryz.ntmps61
    go_wp2
    go_ret
    exact ⟨rfl, rfl⟩
  · clear hcell
    have hw : wordAt ws i = [] := by simp [wordAt, hi]
    rw [hw]
    clear hw
    go_enter Tryz.func61, Tryz.ntmps61
    go_wp2
    go_ret
    exact ⟨rfl, rfl⟩

/-- Which column a word names; none of so many. -/
def colOf (l : List UInt8) (n : Nat) : Option Nat :=
  match l with
  | [c] => if 49 ≤ c.toNat ∧ c.toNat ≤ 57 ∧ c.toNat - 48 ≤ n then some (c.toNat - 49) else none
  | _ => none

theorem colOf_lt {l : List UInt8} {n k : Nat} (h : colOf l n = some k) : k < n ∧ k < 9 := by
  unfold colOf at h
  split at h
  · split at h
    · simp at h; omega
    · cases h
  · cases h

set_option maxRecDepth 10000 in
set_option maxHeartbeats 400000 in
theorem column_any (s : ByteArray) (n : Nat) (w : World) (_hs : s.size ≤ maxLen) :
    Calls Tryz.prog 63 #[.string s, .int .i64 n] w fun e w' => e = .returned (.int .i64 (idxOf (colOf s.data.toList n))) ∧ w' = w := by
  by_cases h1 : s.size = 1
  · obtain ⟨c, hc⟩ : ∃ c, s.data.toList = [c] := by
      have : s.data.toList.length = 1 := by simpa using h1
      match h : s.data.toList, this with
      | [c], _ => exact ⟨c, rfl⟩
    have hg : s[0]'(by omega) = c := by
      have : s.data.toList[0]'(by rw [hc]; simp) = c := by simp [hc]
      exact this
    rw [hc]
    have HG : Hid (s[0]'(by omega) = c) := hg
    clear hc
    go_enter Tryz.func63, Tryz.ntmps63
    go_wp2
    all_goals
      go_ret
      refine ⟨ret_int ?_, rfl⟩
      simp only [colOf]
      split
      all_goals first | (simp only [idxOf]; omega) | (simp only [idxOf])
  · have hn : colOf s.data.toList n = none := by
      unfold colOf
      split
      · rename_i c h; exact absurd (by have := congrArg List.length h; simpa using this) h1
      · rfl
    rw [hn]
    clear hn
    go_enter Tryz.func63, Tryz.ntmps63
    go_wp2
    go_ret
    exact ⟨rfl, rfl⟩

set_option maxRecDepth 10000 in
set_option maxHeartbeats 400000 in
theorem alike_any (v v' : Value) (xs ys : List Bool) (w : World) (hv : Reads w v (xs.map .bool)) (hv' : Reads w v' (ys.map .bool)) (hl : xs.length ≤ 140737488355328) (hl' : ys.length ≤ 140737488355328) :
    Calls Tryz.prog 85 #[v, v'] w fun e w' => e = .returned (.bool (xs == ys)) ∧ ∃ n, w' = w.drewN n := by
  obtain ⟨a, cap, rfl, hcell⟩ := hv
  obtain ⟨a', cap', rfl, hcell'⟩ := hv'
  rw [List.length_map, List.length_map]
  have H1 : Hid _ := hcell
  have H2 : Hid _ := hcell'
  clear hcell hcell'
  by_cases hlen : xs.length = ys.length
  · rw [hlen]
    go_enter Tryz.func85, Tryz.ntmps85
    go_wp2
    go_loopw [5] (fun i wr => ∃ (k n : Nat), k ≤ ys.length ∧ i = .int .i64 k ∧ wr = w.drewN n ∧ xs.take k = ys.take k) (fun i _ => ys.length - (intOf i).toNat)
    case atStart => exact ⟨0, 0, Nat.zero_le _, rfl, rfl, rfl⟩
    case round =>
      obtain ⟨k, n, hk, rfl, rfl, hsame⟩ := hrel
      have HN : Hid (xs.take k = ys.take k) := hsame
      clear hsame
      by_cases hlt : k < ys.length
      · obtain ⟨b, off, rfl, hbl, hc1⟩ := H1.out k (.bool (xs[k]'(by omega))) (by simp [show k < xs.length by omega])
        obtain ⟨b', off', rfl, hbl', hc2⟩ := H2.out k (.bool (ys[k])) (by simp [hlt])
        have hlti : (k : Int) < (ys.length : Int) := by omega
        generalize hx : xs[k]'(by omega) = x at hc1
        generalize hy : ys[k] = y at hc2
        have HX : Hid _ := hx
        have HY : Hid _ := hy
        clear hx hy
        go_wp2
        go_quiet (fail)
        cases x <;> cases y
        all_goals go_wp2
        all_goals first
          | (go_roundw
             case rel =>
               refine ⟨k + 1, n + nq, by omega, by go_num, by first | rfl | simp, ?_⟩
               rw [List.take_succ_eq_append_getElem (by omega), List.take_succ_eq_append_getElem hlt, HX.out, HY.out, HN.out]
             case measure => simp [intOf]; omega)
          | (go_ret
             refine ⟨ret_bool ?_, n + nq, by first | rfl | simp⟩
             symm
             rw [beq_eq_false_iff_ne]
             intro h
             subst h
             have := HX.out.symm.trans HY.out
             cases this)
      · go_wp2
        go_ret
        refine ⟨ret_bool ?_, n, rfl⟩
        have := HN.out
        rw [List.take_of_length_le (by omega), List.take_of_length_le (by omega)] at this
        simp [this]
  · have hne : (xs == ys) = false := by
      rw [beq_eq_false_iff_ne]; intro h; exact hlen (by rw [h])
    rw [hne]
    go_enter Tryz.func85, Tryz.ntmps85
    go_wp2
    go_ret
    exact ⟨rfl, 0, rfl⟩
end Go.Proofs.YtiekijfmafklfaaGreatDoor
