import Derived.Test.YtiekijfmafklfaaGreatDoorRefI
namespace Go.Proofs.YtiekijfmafklfaaGreatDoor
open Go.RowKit

abbrev wInt' : List UInt8 := [105, 110, 116]
abbrev wText' : List UInt8 := [116, 101, 120, 116]
theorem ret_nb' {k : IntKind} {n m : Int} {a b : Bool} (hn : n = m) (h : a = b) : Ending.returned (.tuple #[.int k n, .bool a]) = .returned (.tuple #[.int k m, .bool b]) := by rw [hn, h]
def letterB (c : UInt8) : Bool := decide (97 ≤ c.toNat) && decide (c.toNat ≤ 122)
def digitB (c : UInt8) : Bool := decide (48 ≤ c.toNat) && decide (c.toNat ≤ 57)
def allText (l : List UInt8) : Bool := l.all textByte
theorem textByte_eq (c : UInt8) : textByte c = (letterB c || digitB c || decide (c.toNat = 95)) := rfl

set_option maxRecDepth 10000 in
set_option maxHeartbeats 400000 in
theorem isLetter_any (c : UInt8) (w : World) : Calls Tryz.prog 68 #[.int .u8 c.toNat] w fun e w' => e = .returned (.bool (letterB c)) ∧ w' = w := by
  go_enter Tryz.func68, Tryz.ntmps68
  go_wp2
  all_goals
    go_ret
    refine ⟨ret_bool ?_, rfl⟩
    simp only [letterB]
    first
      | (rw [Bool.eq_iff_iff]; simp; omega)
      | (symm; simp; omega)

set_option maxRecDepth 10000 in
set_option maxHeartbeats 400000 in
theorem isDigit_any (c : UInt8) (w : World) : Calls Tryz.prog 129 #[.int .u8 c.toNat] w fun e w' => e = .returned (.bool (digitB c)) ∧ w' = w := by
  go_enter Tryz.func129, Tryz.ntmps129
  go_wp2
  all_goals
    go_ret
    refine ⟨ret_bool ?_, rfl⟩
    simp only [digitB]
    first
      | (rw [Bool.eq_iff_iff]; simp; omega)
      | (symm; simp; omega)

set_option maxRecDepth 10000 in
set_option maxHeartbeats 400000 in
theorem isTextByte_any (c : UInt8) (w : World) : Calls Tryz.prog 131 #[.int .u8 c.toNat] w fun e w' => e = .returned (.bool (textByte c)) ∧ w' = w := by
  have h1 := fun w => isLetter_any c w
  have h2 := fun w => isDigit_any c w
  rw [textByte_eq]
  cases hl : letterB c <;> cases hd : digitB c <;> rw [hl] at h1 <;> rw [hd] at h2
  all_goals
    clear hl hd
    go_enter Tryz.func131, Tryz.ntmps131
    go_wp2_with (first
      | (go_at_call 68; refine (h1 _).mono ?_; rintro e w' ⟨rfl, hw⟩; obtain rfl := hw.symm)
      | (go_at_call 129; refine (h2 _).mono ?_; rintro e w' ⟨rfl, hw⟩; obtain rfl := hw.symm))
    go_ret
    refine ⟨ret_bool ?_, rfl⟩
    first
      | rfl
      | (rw [Bool.eq_iff_iff]; simp; omega)

set_option maxRecDepth 10000 in
set_option maxHeartbeats 1000000 in
theorem allBytes_letter (s : ByteArray) (w : World) (hs : s.size ≤ maxLen) :
    Calls Tryz.prog 67 #[.string s, .func (.func 68) #[] #[]] w fun e w' => e = .returned (.bool (allBetween 97 122 s.data.toList)) ∧ w' = w := by
  unfold maxLen at hs
  go_enter Tryz.func67, Tryz.ntmps67
  go_wp2
  go_loop [8] (fun i => ∃ k : Nat, k ≤ s.size ∧ i = .int .i64 k ∧ (s.data.toList.take k).all letterB = true) (fun i => s.size - (intOf i).toNat)
  case atStart => exact ⟨0, Nat.zero_le _, rfl, rfl⟩
  case round =>
    obtain ⟨k, hk, rfl, hall⟩ := hrel
    have HA : Hid _ := hall
    clear hall
    by_cases hlt : k < s.size
    · have hf := isLetter_any s[k] w
      cases hp : letterB s[k]
      · have HP : Hid _ := hp
        rw [hp] at hf
        clear hp
        go_wp2_with (go_at_call 68; refine hf.mono ?_; rintro e w' ⟨rfl, hw⟩; obtain rfl := hw.symm)
        go_ret
        refine ⟨ret_bool ?_, rfl⟩
        symm
        show s.data.toList.all letterB = false
        rw [List.all_eq_false]
        exact ⟨s[k], List.mem_iff_getElem.2 ⟨k, by simpa using hlt, rfl⟩, by rw [HP.out]; simp⟩
      · have HS : Hid ((s.data.toList.take (k + 1)).all letterB = true) := Hid.mk (by rw [take_snoc s k hlt, List.all_append, HA.out]; simp [hp])
        rw [hp] at hf
        clear hp
        go_wp2_with (go_at_call 68; refine hf.mono ?_; rintro e w' ⟨rfl, hw⟩; obtain rfl := hw.symm)
        go_round
        case rel => exact ⟨k + 1, by omega, by go_num, HS.out⟩
        case measure => simp [intOf]; omega
    · go_wp2
      go_ret
      refine ⟨ret_bool ?_, rfl⟩
      show true = s.data.toList.all letterB
      rw [← HA.out, List.take_of_length_le (by simp; omega)]

set_option maxRecDepth 10000 in
set_option maxHeartbeats 1000000 in
theorem allBytes_digit (s : ByteArray) (w : World) (hs : s.size ≤ maxLen) :
    Calls Tryz.prog 67 #[.string s, .func (.func 129) #[] #[]] w fun e w' => e = .returned (.bool (allBetween 48 57 s.data.toList)) ∧ w' = w := by
  unfold maxLen at hs
  go_enter Tryz.func67, Tryz.ntmps67
  go_wp2
  go_loop [8] (fun i => ∃ k : Nat, k ≤ s.size ∧ i = .int .i64 k ∧ (s.data.toList.take k).all digitB = true) (fun i => s.size - (intOf i).toNat)
  case atStart => exact ⟨0, Nat.zero_le _, rfl, rfl⟩
  case round =>
    obtain ⟨k, hk, rfl, hall⟩ := hrel
    have HA : Hid _ := hall
    clear hall
    by_cases hlt : k < s.size
    · have hf := isDigit_any s[k] w
      cases hp : digitB s[k]
      · have HP : Hid _ := hp
        rw [hp] at hf
        clear hp
        go_wp2_with (go_at_call 129; refine hf.mono ?_; rintro e w' ⟨rfl, hw⟩; obtain rfl := hw.symm)
        go_ret
        refine ⟨ret_bool ?_, rfl⟩
        symm
        show s.data.toList.all digitB = false
        rw [List.all_eq_false]
        exact ⟨s[k], List.mem_iff_getElem.2 ⟨k, by simpa using hlt, rfl⟩, by rw [HP.out]; simp⟩
      · have HS : Hid ((s.data.toList.take (k + 1)).all digitB = true) := Hid.mk (by rw [take_snoc s k hlt, List.all_append, HA.out]; simp [hp])
        rw [hp] at hf
        clear hp
        go_wp2_with (go_at_call 129; refine hf.mono ?_; rintro e w' ⟨rfl, hw⟩; obtain rfl := hw.symm)
        go_round
        case rel => exact ⟨k + 1, by omega, by go_num, HS.out⟩
        case measure => simp [intOf]; omega
    · go_wp2
      go_ret
      refine ⟨ret_bool ?_, rfl⟩
      show true = s.data.toList.all digitB
      rw [← HA.out, List.take_of_length_le (by simp; omega)]

set_option maxRecDepth 10000 in
set_option maxHeartbeats 1000000 in
theorem allBytes_text (s : ByteArray) (w : World) (hs : s.size ≤ maxLen) :
    Calls Tryz.prog 67 #[.string s, .func (.func 131) #[] #[]] w fun e w' => e = .returned (.bool (allText s.data.toList)) ∧ w' = w := by
  unfold maxLen at hs
  go_enter Tryz.func67, Tryz.ntmps67
  go_wp2
  go_loop [8] (fun i => ∃ k : Nat, k ≤ s.size ∧ i = .int .i64 k ∧ (s.data.toList.take k).all textByte = true) (fun i => s.size - (intOf i).toNat)
  case atStart => exact ⟨0, Nat.zero_le _, rfl, rfl⟩
  case round =>
    obtain ⟨k, hk, rfl, hall⟩ := hrel
    have HA : Hid _ := hall
    clear hall
    by_cases hlt : k < s.size
    · have hf := isTextByte_any s[k] w
      cases hp : textByte s[k]
      · have HP : Hid _ := hp
        rw [hp] at hf
        clear hp
        go_wp2_with (go_at_call 131; refine hf.mono ?_; rintro e w' ⟨rfl, hw⟩; obtain rfl := hw.symm)
        go_ret
        refine ⟨ret_bool ?_, rfl⟩
        symm
        show s.data.toList.all textByte = false
        rw [List.all_eq_false]
        exact ⟨s[k], List.mem_iff_getElem.2 ⟨k, by simpa using hlt, rfl⟩, by rw [HP.out]; simp⟩
      · have HS : Hid ((s.data.toList.take (k + 1)).all textByte = true) := Hid.mk (by rw [take_snoc s k hlt, List.all_append, HA.out]; simp [hp])
        rw [hp] at hf
        clear hp
        go_wp2_with (go_at_call 131; refine hf.mono ?_; rintro e w' ⟨rfl, hw⟩; obtain rfl := hw.symm)
        go_round
        case rel => exact ⟨k + 1, by omega, by go_num, HS.out⟩
        case measure => simp [intOf]; omega
    · go_wp2
      go_ret
      refine ⟨ret_bool ?_, rfl⟩
      show true = s.data.toList.all textByte
      rw [← HA.out, List.take_of_length_le (by simp; omega)]

theorem all_letter (l : List UInt8) : l.all letterB = allBetween 97 122 l := rfl
theorem all_digit (l : List UInt8) : l.all digitB = allBetween 48 57 l := rfl

set_option maxRecDepth 10000 in
set_option maxHeartbeats 400000 in
theorem sIsName_any (s : ByteArray) (w : World) (hs : s.size ≤ maxLen) :
    Calls Tryz.prog 43 #[.string s] w fun e w' => e = .returned (.bool (isNameL s.data.toList)) ∧ w' = w := by
  have hb := allBytes_letter s w hs
  cases hc : allBetween 97 122 s.data.toList
  all_goals
    rw [hc] at hb
    go_enter Tryz.func43, Tryz.ntmps43
    go_wp2_with (go_at_call 67; refine hb.mono ?_; rintro e w' ⟨rfl, hw⟩; obtain rfl := hw.symm)
    all_goals
      go_ret
      refine ⟨ret_bool ?_, rfl⟩
      simp [isNameL, hc]
      try (first | omega | (rw [Bool.eq_iff_iff]; simp; omega))

/-- A type as the program has it: 1 int, 2 text. -/
def tnum (b : Bool) : Int := if b then 2 else 1
abbrev tcode (b : Bool) : Value := .int .i64 (tnum b)

set_option maxRecDepth 10000 in
set_option maxHeartbeats 400000 in
theorem readType_no (x : List UInt8) (w : World) (h1 : (x == wInt') = false) (h2 : (x == wText') = false) :
    Calls Tryz.prog 69 #[.string (bs x)] w fun e w' => e = .returned (.tuple #[.int .i64 0, .bool false]) ∧ w' = w := by
  have hbs := bs_toList2
  go_enter Tryz.func69, Tryz.ntmps69
  go_wp2
  go_ret2
  exact ⟨rfl, rfl⟩
set_option maxRecDepth 10000 in
set_option maxHeartbeats 400000 in
theorem readType_yes (b : Bool) (w : World) :
    Calls Tryz.prog 69 #[.string (bs (if b then wText' else wInt'))] w fun e w' => e = .returned (.tuple #[tcode b, .bool true]) ∧ w' = w := by
  have hbs := bs_toList2
  cases b
  all_goals
    go_enter Tryz.func69, Tryz.ntmps69
    go_wp2
    go_ret2
    exact ⟨rfl, rfl⟩

/-- COL, as the program reads it. -/
def colRaw (l : List UInt8) : Option Nat := colOf l 9

set_option maxRecDepth 10000 in
set_option maxHeartbeats 400000 in
theorem readColumn_any (s : ByteArray) (w : World) (_hs : s.size ≤ maxLen) :
    Calls Tryz.prog 109 #[.string s] w fun e w' => e = .returned (.tuple #[.int .i64 (((colRaw s.data.toList).getD 0 : Nat) : Int), .bool (colRaw s.data.toList).isSome]) ∧ w' = w := by
  by_cases h1 : s.size = 1
  · obtain ⟨c, hc⟩ : ∃ c, s.data.toList = [c] := by
      have : s.data.toList.length = 1 := by simpa using h1
      match h : s.data.toList, this with
      | [c], _ => exact ⟨c, rfl⟩
    have hg : s[0]'(by omega) = c := by
      have : s.data.toList[0]'(by rw [hc]; simp) = c := by simp [hc]
      exact this
    rw [hc]
    clear hc
    go_enter Tryz.func109, Tryz.ntmps109
    go_wp2
    all_goals
      go_ret2
      refine ⟨?_, rfl⟩
      simp only [colRaw, colOf]
      split
      all_goals first
        | omega
        | rfl
        | (exact ret_nb' (by simp; omega) rfl)
  · have hn : colRaw s.data.toList = none := by
      unfold colRaw colOf
      split
      · rename_i c h; exact absurd (by have := congrArg List.length h; simpa using this) h1
      · rfl
    rw [hn]
    clear hn
    go_enter Tryz.func109, Tryz.ntmps109
    go_wp2
    go_ret2
    exact ⟨rfl, rfl⟩
end Go.Proofs.YtiekijfmafklfaaGreatDoor
