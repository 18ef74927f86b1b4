import Derived.Test.YtnpjldffciociaaGreatDoorB09
import Derived.Test.YtnpjldffciociaaGreatDoorB14
namespace Go.Proofs.YtnpjldffciociaaGreatDoor
open Go.RowKit

theorem ret_sb {S : ByteArray} {a b : Bool} (h : a = b) : Ending.returned (.tuple #[.string S, .bool a]) = .returned (.tuple #[.string S, .bool b]) := by rw [h]

theorem text_all {s d : ByteArray} (hd : d.data.toList = midOf s.data.toList) (h2 : 2 ≤ s.size) (h14 : s.size ≤ 14) (h0 : s[0] = 39) (h1 : s[s.size - 1]'(by omega) = 39) : isTextL s.data.toList = allText d.data.toList := by
  have e2 : 2 ≤ s.data.toList.length := by simpa using h2
  have e14 : s.data.toList.length ≤ 14 := by simpa using h14
  simp only [isTextL, decide_eq_true e2, decide_eq_true e14, head0 (show 0 < s.size by omega), last0 (show 0 < s.size by omega), h0, h1, allText, hd]
  simp

set_option maxRecDepth 10000 in
set_option maxHeartbeats 1000000 in
theorem readText_any (s : ByteArray) (w : World) (hs : s.size ≤ 1048577) :
    Calls Tryz.prog 293 #[.string s] w fun e w' => (∃ S, e = .returned (.tuple #[.string S, .bool (isTextL s.data.toList)])) ∧ w' = w := by
  obtain ⟨bb, HB⟩ : ∃ bb, Hid (isTextL s.data.toList = bb) := exHid _
  rw [HB.out]
  by_cases h2 : s.size < 2
  · have HR : Hid (bb = false) := Hid.mk (HB.out.symm.trans (text_short h2))
    go_enter Tryz.func293, Tryz.ntmps293
    go_wp2
    go_ret2
    exact ⟨⟨_, ret_sb HR.out.symm⟩, rfl⟩
  by_cases h14 : 14 < s.size
  · have HR : Hid (bb = false) := Hid.mk (HB.out.symm.trans (text_long h14))
    go_enter Tryz.func293, Tryz.ntmps293
    go_wp2
    go_ret2
    exact ⟨⟨_, ret_sb HR.out.symm⟩, rfl⟩
  have hpos : 0 < s.size := by omega
  by_cases h0 : s[0] = 39
  case neg =>
    have HR : Hid (bb = false) := Hid.mk (HB.out.symm.trans (text_first hpos h0))
    have h0p : ¬ (s[0].toNat : Int) = 39 := fun h => h0 (UInt8.toNat_inj.1 (by simp; omega))
    have h0' : ((s[0].toNat : Int) != 39) = true := by simpa using h0p
    clear h0
    go_enter Tryz.func293, Tryz.ntmps293
    go_wp2
    go_ret2
    exact ⟨⟨_, ret_sb HR.out.symm⟩, rfl⟩
  by_cases h1 : s[s.size - 1]'(by omega) = 39
  case neg =>
    have HR : Hid (bb = false) := Hid.mk (HB.out.symm.trans (text_last hpos h1))
    have h1p : ¬ ((s[s.size - 1]'(by omega)).toNat : Int) = 39 := fun h => h1 (UInt8.toNat_inj.1 (by simp; omega))
    have h1' : (((s[s.size - 1]'(by omega)).toNat : Int) != 39) = true := by simpa using h1p
    have h0n : ((s[0].toNat : Int) != 39) = false := by simp [h0]
    clear h0 h1
    go_enter Tryz.func293, Tryz.ntmps293
    go_wp2
    go_ret2
    exact ⟨⟨_, ret_sb HR.out.symm⟩, rfl⟩
  have h0' : (s[0].toNat : Int) = 39 := by simp [h0]
  have h0'' : ((s[0].toNat : Int) != 39) = false := by simp [h0]
  have h1' : ((s[s.size - 1]'(by omega)).toNat : Int) = 39 := by simp [h1]
  have h1'' : (((s[s.size - 1]'(by omega)).toNat : Int) != 39) = false := by simp [h1]
  have HR : Hid (bb = allText (s.extract 1 (s.size - 1)).data.toList) := Hid.mk (HB.out.symm.trans (text_all (mid_extract s) (by omega) (by omega) h0 h1))
  have hab := allBytes_text (s.extract 1 (s.size - 1)) w (by simp [maxLen]; omega)
  rw [← HR.out] at hab
  clear h0 h1 HB HR
  go_enter Tryz.func293, Tryz.ntmps293
  go_wp2_with (go_at_call 122; refine hab.mono ?_; rintro e w' ⟨rfl, hw⟩; obtain rfl := hw.symm)
  go_ret2
  exact ⟨⟨_, rfl⟩, rfl⟩
end Go.Proofs.YtnpjldffciociaaGreatDoor
namespace Go.Proofs.YtnpjldffciociaaGreatDoor
open Go.RowKit Go.Lib

def numAcc (acc : Nat) (l : List UInt8) : Nat := l.foldl (fun n c => 10 * n + (c.toNat - 48)) acc
theorem numAcc_cons (acc : Nat) (c : UInt8) (l : List UInt8) : numAcc acc (c :: l) = numAcc (10 * acc + (c.toNat - 48)) l := by unfold numAcc; rw [List.foldl_cons]
theorem numAcc_ge : ∀ (l : List UInt8) (acc : Nat), acc ≤ numAcc acc l := by
  intro l
  induction l with
  | nil => intro acc; exact Nat.le_refl _
  | cons c r ih => intro acc; rw [numAcc_cons]; have := ih (10 * acc + (c.toNat - 48)); omega
theorem numAcc_pow : ∀ (l : List UInt8) (acc : Nat), acc * 10 ^ l.length ≤ numAcc acc l := by
  intro l
  induction l with
  | nil => intro acc; simp [numAcc]
  | cons c r ih =>
    intro acc
    rw [numAcc_cons]
    have := ih (10 * acc + (c.toNat - 48))
    have h2 : acc * 10 ^ (c :: r).length = (10 * acc) * 10 ^ r.length := by
      rw [List.length_cons, Nat.pow_succ, Nat.mul_comm (10 ^ r.length) 10, ← Nat.mul_assoc, Nat.mul_comm acc 10]
    have h3 : (10 * acc) * 10 ^ r.length ≤ (10 * acc + (c.toNat - 48)) * 10 ^ r.length := Nat.mul_le_mul_right _ (by omega)
    omega
theorem pu10 : ∀ (l : List UInt8) (acc : Nat), allBetween 48 57 l = true → acc < 18446744073709551616 → parseUint10 acc l = if numAcc acc l < 18446744073709551616 then .ok (numAcc acc l) else .range := by
  intro l
  induction l with
  | nil => intro acc _ h; simp [parseUint10, numAcc, h]
  | cons c r ih =>
    intro acc hall h
    have hc := allBetween_mem hall (c := c) (by simp)
    have hr : allBetween 48 57 r = true := by
      unfold allBetween at *
      rw [List.all_cons] at hall
      simp at hall ⊢
      exact hall.2
    have hge := numAcc_ge r (10 * acc + (c.toNat - 48))
    rw [parseUint10, if_pos hc, numAcc_cons]
    by_cases h1 : 1844674407370955162 ≤ acc
    · rw [if_pos h1, if_neg (by omega)]
    · rw [if_neg h1]
      by_cases h2 : 18446744073709551616 ≤ acc * 10 + (c.toNat - 48)
      · rw [if_pos h2, if_neg (by omega)]
      · rw [if_neg h2, ih _ hr (by omega)]
        rw [show acc * 10 + (c.toNat - 48) = 10 * acc + (c.toNat - 48) by omega]
theorem pi64 (c : UInt8) (r : List UInt8) (hall : allBetween 48 57 (c :: r) = true) : parseIntB 64 (c :: r) = if numVal (c :: r) < 9223372036854775808 then .ok (numVal (c :: r) : Int) else .range := by
  have hc := allBetween_mem hall (c := c) (by simp)
  rw [parseIntB_plain 64 c r (by omega) (by omega), parseUintB_64]
  unfold parseMag
  rw [if_neg (by simp), pu10 _ 0 hall (by omega)]
  show signlessC _ (if numVal (c :: r) < 18446744073709551616 then NumEnd.ok (numVal (c :: r)) else NumEnd.range) = _
  by_cases h1 : numVal (c :: r) < 18446744073709551616
  · rw [if_pos h1]
    by_cases h2 : numVal (c :: r) < 9223372036854775808
    · rw [if_pos h2]
      simp [signlessC]
      omega
    · rw [if_neg h2]
      simp [signlessC]
      omega
  · rw [if_neg h1, if_neg (by omega)]
    rfl

theorem strip_trim (l : List UInt8) : trimPrefix l [45] = stripMinus l := by
  cases l with
  | nil => rfl
  | cons c d =>
    unfold trimPrefix hasPrefix stripMinus
    by_cases h : c = 45
    · subst h; simp
    · have : ([45] : List UInt8).isPrefixOf (c :: d) = false := by simp [List.isPrefixOf]; exact fun e => h e.symm
      simp [this, h]

theorem num_long {d : ByteArray} (ha : allBetween 48 57 d.data.toList = true) (hp : 0 < d.size) (h0 : ¬ d[0] = 48) (hl : 16 < d.size) : 1000000000000000 < numVal d.data.toList := by
  match hd : d.data.toList with
  | [] => have := congrArg List.length hd; simp only [List.length_nil, Array.length_toList] at this; have h' : d.size = d.data.size := rfl; omega
  | c :: r =>
    have hc : d[0] = c := by
      have : d.data.toList[0]'(by rw [hd]; simp) = c := by simp [hd]
      exact this
    rw [hd] at ha
    have hcb := allBetween_mem ha (c := c) (by simp)
    have h49 : 49 ≤ c.toNat := by
      have : c.toNat ≠ 48 := fun e => h0 (by rw [hc]; exact UInt8.toNat_inj.1 (by simpa using e))
      omega
    have hlen : r.length + 1 = d.size := by
      have := congrArg List.length hd
      simpa using this.symm
    have hpw := numAcc_pow r (10 * 0 + (c.toNat - 48))
    have h16 : 10 ^ 16 ≤ 10 ^ r.length := Nat.pow_le_pow_right (by decide) (by omega)
    have h1 : 1 * 10 ^ r.length ≤ (10 * 0 + (c.toNat - 48)) * 10 ^ r.length := Nat.mul_le_mul_right _ (by omega)
    have e : numVal (c :: r) = numAcc (10 * 0 + (c.toNat - 48)) r := by
      show numAcc 0 (c :: r) = _
      rw [numAcc_cons]
    rw [e]
    omega

theorem parse_below {w w' : World} (h : w' = w ∨ ∃ t, w' = Lib.bytesWorld w 5 t) : Below w.heap.size w w' := by
  rcases h with rfl | ⟨t, rfl⟩
  · exact Below.refl _ _
  · exact Lib.bytesWorld_below _ _ _

set_option maxRecDepth 10000 in
set_option maxHeartbeats 4000000 in
theorem readNumber_core (s d : ByteArray) (neg : Bool) (w : World) (_hs : s.size ≤ 1048577) (hdz : d.size ≤ 1048577) (hrel : (s.toList == [48]) = true → d.size ≤ 1) (hg : Glob w) (hcut : Calls Tryz.prog 333 #[.string s, .string ⟨#[45]⟩] w fun e w' => e = .returned (.tuple #[.string d, .bool neg]) ∧ w' = w) :
    Calls Tryz.prog 292 #[.string s] w fun e w' => (∃ n : Int, e = .returned (.tuple #[.int .i64 n, .bool (numOk s.data.toList d.data.toList)])) ∧ Below w.heap.size w w' := by
  obtain ⟨bb, HB⟩ : ∃ bb, Hid (numOk s.data.toList d.data.toList = bb) := exHid _
  rw [HB.out]
  have HREL : Hid _ := hrel
  clear hrel
  have hb := allBytes_digit d w (by simp [maxLen]; omega)
  by_cases hz : d.size = 0
  · have HR : Hid _ := Hid.mk (HB.out.symm.trans (numOk_nil hz))
    have hd0 : d = ByteArray.empty := by
      apply ByteArray.ext
      exact Array.eq_empty_of_size_eq_zero (by simpa using hz)
    subst hd0
    clear hb hz HB
    go_enter Tryz.func292, Tryz.ntmps292
    go_wp2_with (go_at_call 333; refine hcut.mono ?_; rintro e w' ⟨rfl, hw⟩; obtain rfl := hw.symm)
    go_ret2
    exact ⟨⟨_, ret_nb HR.out⟩, Below.refl _ _⟩
  have hpos : 0 < d.size := by omega
  have hdne : (d.toList == []) = false := by
    rw [ByteArray.toList_eq]
    cases hh : d.data.toList with
    | nil => have := congrArg List.length hh; simp only [List.length_nil, Array.length_toList] at this; have h' : d.size = d.data.size := rfl; omega
    | cons a b => rfl
  cases hall : allBetween 48 57 d.data.toList
  · rw [hall] at hb
    have HR : Hid _ := Hid.mk (HB.out.symm.trans (numOk_all hall))
    clear hall
    go_enter Tryz.func292, Tryz.ntmps292
    go_wp2_with (first
      | (go_at_call 333; refine hcut.mono ?_; rintro e w' ⟨rfl, hw⟩; obtain rfl := hw.symm)
      | (go_at_call 122; refine hb.mono ?_; rintro e w' ⟨rfl, hw⟩; obtain rfl := hw.symm))
    go_ret2
    exact ⟨⟨_, ret_nb HR.out⟩, Below.refl _ _⟩
  rw [hall] at hb
  have HA : Hid _ := hall
  clear hall
  by_cases hzero : d[0] = 48 ∧ (s.toList == [48]) = false
  · obtain ⟨he, hne⟩ := hzero
    have HR : Hid _ := Hid.mk (HB.out.symm.trans (numOk_zero hpos he hne))
    have he' : ((d[0].toNat : Int) == 48) = true := by simp [he]
    clear he
    go_enter Tryz.func292, Tryz.ntmps292
    go_wp2_with (first | (go_at_call 333; refine hcut.mono ?_; rintro e w' ⟨rfl, hw⟩; obtain rfl := hw.symm) | (go_at_call 122; refine hb.mono ?_; rintro e w' ⟨rfl, hw⟩; obtain rfl := hw.symm))
    go_ret2
    exact ⟨⟨_, ret_nb HR.out⟩, Below.refl _ _⟩
  have HG0 : Hid (d[0] = 48 → (s.toList == [48]) = true) := Hid.mk fun h => by
    cases hh : (s.toList == [48])
    · exact absurd ⟨h, hh⟩ hzero
    · rfl
  have hlongd : ∀ h : 16 < d.size, Hid (1000000000000000 < numVal d.data.toList) := fun h => Hid.mk (by
    by_cases h0 : d[0] = 48
    · have h1 := HG0.out h0
      have := HREL.out h1
      omega
    · exact num_long HA.out hpos h0 h)
  have htest : ((d[0].toNat : Int) == 48) = false ∨ (((d[0].toNat : Int) == 48) = true ∧ (s.toList == [48]) = true) := by
    by_cases h0 : d[0] = 48
    · right; exact ⟨by simp [h0], HG0.out h0⟩
    · left; simp; intro h; exact h0 (UInt8.toNat_inj.1 (by simp; omega))
  clear hzero
  obtain ⟨c, r, hcr⟩ : ∃ c r, d.data.toList = c :: r := by
    cases hh : d.data.toList with
    | nil => have := congrArg List.length hh; simp only [List.length_nil, Array.length_toList] at this; have h' : d.size = d.data.size := rfl; omega
    | cons a b => exact ⟨a, b, rfl⟩
  have hpi := pi64 c r (by rw [← hcr]; exact HA.out)
  rw [← hcr] at hpi
  by_cases hv : numVal d.data.toList < 9223372036854775808
  · rw [if_pos hv] at hpi
    have hP := Tryz.strconv_ParseInt_10_at64_ok d (by omega) _ hpi w
    have hR : bb = decide (numVal d.data.toList ≤ 1000000000000000) := by
      rw [← HB.out]
      by_cases hbig : 1000000000000000 < numVal d.data.toList
      · rw [numOk_big hbig]; symm; simp; omega
      · have h16 : d.size ≤ 16 := by
          rcases Nat.lt_or_ge 16 d.size with h | h
          · exact absurd (hlongd h).out hbig
          · exact h
        rw [numOk_yes HA.out hpos h16 HG0.out (by omega)]; symm; simp; omega
    have HR : Hid _ := hR
    generalize numVal d.data.toList = m at *
    clear hR hpi hcr hlongd HB
    by_cases hbig : 1000000000000000 < m
    · have HF : Hid (bb = false) := Hid.mk (by rw [HR.out]; simp; omega)
      rcases htest with ht | ⟨ht, ht2⟩
      all_goals
        go_enter Tryz.func292, Tryz.ntmps292
        go_wp2_with (first | (go_at_call 333; refine hcut.mono ?_; rintro e w' ⟨rfl, hw⟩; obtain rfl := hw.symm) | (go_at_call 122; refine hb.mono ?_; rintro e w' ⟨rfl, hw⟩; obtain rfl := hw.symm) | (go_at_call 335; refine hP.mono ?_; rintro e wp ⟨rfl, hwp⟩; have HWP : Hid _ := hwp; clear hwp))
        go_ret2
        exact ⟨⟨_, ret_nb HF.out⟩, parse_below HWP.out⟩
    · have HT : Hid (bb = true) := Hid.mk (by rw [HR.out]; simp; omega)
      rcases htest with ht | ⟨ht, ht2⟩
      all_goals cases neg
      all_goals
        go_enter Tryz.func292, Tryz.ntmps292
        go_wp2_with (first | (go_at_call 333; refine hcut.mono ?_; rintro e w' ⟨rfl, hw⟩; obtain rfl := hw.symm) | (go_at_call 122; refine hb.mono ?_; rintro e w' ⟨rfl, hw⟩; obtain rfl := hw.symm) | (go_at_call 335; refine hP.mono ?_; rintro e wp ⟨rfl, hwp⟩; have HWP : Hid _ := hwp; clear hwp))
        go_ret2
        exact ⟨⟨_, ret_nb HT.out⟩, parse_below HWP.out⟩
  · rw [if_neg hv] at hpi
    have HF : Hid (bb = false) := Hid.mk (by rw [← HB.out]; exact numOk_big (by omega))
    obtain ⟨_, _, _, ⟨tr, pr, hvr⟩, _⟩ := hg
    have hP := Tryz.strconv_ParseInt_10_at64_range d (by omega) hpi _ w hvr (.inr ⟨_, _, rfl⟩)
    clear hpi hcr hlongd HB hv hvr
    rcases htest with ht | ⟨ht, ht2⟩
    all_goals
      go_enter Tryz.func292, Tryz.ntmps292
      go_wp2_with (first | (go_at_call 333; refine hcut.mono ?_; rintro e w' ⟨rfl, hw⟩; obtain rfl := hw.symm) | (go_at_call 122; refine hb.mono ?_; rintro e w' ⟨rfl, hw⟩; obtain rfl := hw.symm) | (go_at_call 335; refine hP.mono ?_; rintro e wp ⟨N, rfl, hN, hNN, hbp⟩))
      go_ret2
      exact ⟨⟨_, ret_nb HF.out⟩, hbp⟩

theorem readNumber_any (s : ByteArray) (w : World) (hs : s.size ≤ 1048577) (hg : Glob w) :
    Calls Tryz.prog 292 #[.string s] w fun e w' => (∃ n : Int, e = .returned (.tuple #[.int .i64 n, .bool (isNum s.data.toList)])) ∧ Below w.heap.size w w' := by
  have hc := Tryz.strings_CutPrefix s ⟨#[45]⟩ w
  have e : (⟨(trimPrefix s.data.toList [45]).toArray⟩ : ByteArray) = bs (stripMinus s.data.toList) := by rw [strip_trim]; rfl
  have hc' : Calls Tryz.prog 333 #[.string s, .string ⟨#[45]⟩] w fun e w' => e = .returned (.tuple #[.string (bs (stripMinus s.data.toList)), .bool (hasPrefix s.data.toList [45])]) ∧ w' = w := by
    rw [← e]; exact hc
  have hsl : (stripMinus s.data.toList).length ≤ s.size := by
    unfold stripMinus
    split
    · simp
    · rename_i c d hcd
      have := congrArg List.length hcd
      have h' : s.data.toList.length = s.size := by simp
      split <;> simp at this ⊢ <;> omega
  have := readNumber_core s (bs (stripMinus s.data.toList)) _ w hs (by simp; omega) (fun h => by
    rw [ByteArray.toList_eq] at h
    have h2 : s.data.toList = [48] := by simpa using h
    rw [h2]; decide) hg hc'
  exact this

end Go.Proofs.YtnpjldffciociaaGreatDoor
namespace Go.Proofs.YtnpjldffciociaaGreatDoor
open Go.RowKit Go.Lib

theorem three_set {W : World} {h : Nat} {x y z a b c : Value} (h0 : W.cell? ⟨h, 0, none⟩ = some a) (h1 : W.cell? ⟨h, 1, none⟩ = some b) (h2 : W.cell? ⟨h, 2, none⟩ = some c) :
    (((W.setCell ⟨h, 0, none⟩ x).setCell ⟨h, 1, none⟩ y).setCell ⟨h, 2, none⟩ z).cell? ⟨h, 0, none⟩ = some x ∧ (((W.setCell ⟨h, 0, none⟩ x).setCell ⟨h, 1, none⟩ y).setCell ⟨h, 2, none⟩ z).cell? ⟨h, 1, none⟩ = some y ∧ (((W.setCell ⟨h, 0, none⟩ x).setCell ⟨h, 1, none⟩ y).setCell ⟨h, 2, none⟩ z).cell? ⟨h, 2, none⟩ = some z := by
  have k0 : (W.setCell ⟨h, 0, none⟩ x).cell? ⟨h, 0, none⟩ = some x := World.cell?_setCell_same _ _ _ h0
  have k1 : (W.setCell ⟨h, 0, none⟩ x).cell? ⟨h, 1, none⟩ = some b := by
    rw [World.cell?_setCell_other]
    · exact h1
    · simp
  have k2 : ((W.setCell ⟨h, 0, none⟩ x).setCell ⟨h, 1, none⟩ y).cell? ⟨h, 2, none⟩ = some c := by
    rw [World.cell?_setCell_other, World.cell?_setCell_other]
    · exact h2
    · simp
    · simp
  refine ⟨?_, ?_, World.cell?_setCell_same _ _ _ k2⟩
  · rw [World.cell?_setCell_other, World.cell?_setCell_other]
    · exact k0
    · simp
    · simp
  · rw [World.cell?_setCell_other]
    · exact World.cell?_setCell_same _ _ _ k1
    · simp

/-- What readValue answers. -/
def PVal (k : Option Bool) (e : Ending) : Prop := ∃ (t n : Int) (S : ByteArray), e = .returned (.tuple #[.agg #[.int .i64 t, .int .i64 n, .string S], .bool k.isSome]) ∧ ∀ b, k = some b → t = tnum b

set_option maxRecDepth 10000 in
set_option maxHeartbeats 2000000 in
theorem pReadValue_any (s : ByteArray) (w : World) (hs : s.size ≤ 1048577) (hg : Glob w) :
    Calls Tryz.prog 252 #[.string s] w fun e w' => PVal (valKind s.data.toList) e ∧ Below w.heap.size w w' := by
  have hn := fun o => readNumber_any s (w.alloc o) hs (hg.kept ((Below.refl _ _).alloc (Nat.le_refl _) o))
  have ht := fun W => readText_any s W hs
  obtain ⟨kk, HK⟩ : ∃ kk, Hid (valKind s.data.toList = kk) := exHid _
  rw [HK.out]
  cases hnum : isNum s.data.toList
  · rw [hnum] at hn
    cases htx : isTextL s.data.toList
    · rw [htx] at ht
      have hk : none = kk := by rw [← HK.out]; simp [valKind, hnum, htx]
      subst hk
      clear HK hnum htx hg
      go_enter Tryz.func252, Tryz.ntmps252
      go_wp2_with (first
        | (go_at_call 292; refine (hn _).mono ?_; rintro e W ⟨⟨n, rfl⟩, hbW⟩; obtain ⟨hcc, hff⟩ := bcell hbW; have hz : w.heap.size + 1 ≤ W.heap.size := (by have := hbW.size; simp at this; omega))
        | (go_at_call 293; refine (ht _).mono ?_; rintro e w' ⟨⟨S, rfl⟩, hw⟩; obtain rfl := hw.symm))
      have k0 : W.cell? ⟨w.heap.size, 0, none⟩ = some (.int .i64 0) := (hcc w.heap.size 0 (by simp)).trans (by simp)
      have k1 : W.cell? ⟨w.heap.size, 1, none⟩ = some (.int .i64 0) := (hcc w.heap.size 1 (by simp)).trans (by simp)
      have k2 : W.cell? ⟨w.heap.size, 2, none⟩ = some (.string ⟨#[]⟩) := (hcc w.heap.size 2 (by simp)).trans (by simp)
      obtain ⟨e0, e1, e2⟩ := three_set (W := W) (h := w.heap.size) (x := .int .i64 0) (y := .int .i64 0) (z := .string ⟨#[]⟩) k0 k1 k2
      refine bodyPost_ret (v := .tuple #[.agg #[.int .i64 0, .int .i64 0, .string ⟨#[]⟩], .bool false]) (by simp [results, Tryz.results252, go_sem, e0, e1, e2]) rfl ⟨⟨_, _, _, rfl, fun b h => by cases h⟩, ?_⟩
      exact (((((Below.refl _ _).alloc (Nat.le_refl _) _).trans (hbW.mono (by simp))).setCell (by simp) _).setCell (by simp) _).setCell (by simp) _
    · rw [htx] at ht
      have hk : some true = kk := by rw [← HK.out]; simp [valKind, hnum, htx]
      subst hk
      clear HK hnum htx hg
      go_enter Tryz.func252, Tryz.ntmps252
      go_wp2_with (first
        | (go_at_call 292; refine (hn _).mono ?_; rintro e W ⟨⟨n, rfl⟩, hbW⟩; obtain ⟨hcc, hff⟩ := bcell hbW; have hz : w.heap.size + 1 ≤ W.heap.size := (by have := hbW.size; simp at this; omega))
        | (go_at_call 293; refine (ht _).mono ?_; rintro e w' ⟨⟨S, rfl⟩, hw⟩; obtain rfl := hw.symm))
      have k0 : W.cell? ⟨w.heap.size, 0, none⟩ = some (.int .i64 0) := (hcc w.heap.size 0 (by simp)).trans (by simp)
      have k1 : W.cell? ⟨w.heap.size, 1, none⟩ = some (.int .i64 0) := (hcc w.heap.size 1 (by simp)).trans (by simp)
      have k2 : W.cell? ⟨w.heap.size, 2, none⟩ = some (.string ⟨#[]⟩) := (hcc w.heap.size 2 (by simp)).trans (by simp)
      obtain ⟨e0, e1, e2⟩ := three_set (W := W) (h := w.heap.size) (x := .int .i64 2) (y := .int .i64 0) (z := .string S) k0 k1 k2
      refine bodyPost_ret (v := .tuple #[.agg #[.int .i64 2, .int .i64 0, .string S], .bool true]) (by simp [results, Tryz.results252, go_sem, e0, e1, e2]) rfl ⟨⟨_, _, _, rfl, fun b h => by cases h; rfl⟩, ?_⟩
      exact (((((Below.refl _ _).alloc (Nat.le_refl _) _).trans (hbW.mono (by simp))).setCell (by simp) _).setCell (by simp) _).setCell (by simp) _
  · rw [hnum] at hn
    have hk : some false = kk := by rw [← HK.out]; simp [valKind, hnum]
    subst hk
    clear HK hnum hg
    go_enter Tryz.func252, Tryz.ntmps252
    go_wp2_with (first
      | (go_at_call 292; refine (hn _).mono ?_; rintro e W ⟨⟨n, rfl⟩, hbW⟩; obtain ⟨hcc, hff⟩ := bcell hbW; have hz : w.heap.size + 1 ≤ W.heap.size := (by have := hbW.size; simp at this; omega))
      | (go_at_call 293; refine (ht _).mono ?_; rintro e w' ⟨⟨S, rfl⟩, hw⟩; obtain rfl := hw.symm))
    have k0 : W.cell? ⟨w.heap.size, 0, none⟩ = some (.int .i64 0) := (hcc w.heap.size 0 (by simp)).trans (by simp)
    have k1 : W.cell? ⟨w.heap.size, 1, none⟩ = some (.int .i64 0) := (hcc w.heap.size 1 (by simp)).trans (by simp)
    have k2 : W.cell? ⟨w.heap.size, 2, none⟩ = some (.string ⟨#[]⟩) := (hcc w.heap.size 2 (by simp)).trans (by simp)
    obtain ⟨e0, e1, e2⟩ := three_set (W := W) (h := w.heap.size) (x := .int .i64 1) (y := .int .i64 n) (z := .string ⟨#[]⟩) k0 k1 k2
    refine bodyPost_ret (v := .tuple #[.agg #[.int .i64 1, .int .i64 n, .string ⟨#[]⟩], .bool true]) (by simp [results, Tryz.results252, go_sem, e0, e1, e2]) rfl ⟨⟨_, _, _, rfl, fun b h => by cases h; rfl⟩, ?_⟩
    exact (((((Below.refl _ _).alloc (Nat.le_refl _) _).trans (hbW.mono (by simp))).setCell (by simp) _).setCell (by simp) _).setCell (by simp) _
end Go.Proofs.YtnpjldffciociaaGreatDoor
