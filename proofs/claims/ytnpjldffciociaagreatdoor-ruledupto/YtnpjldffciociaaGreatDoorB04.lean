import Derived.Test.YtnpjldffciociaaGreatDoorB03
namespace Go.Proofs.YtnpjldffciociaaGreatDoor
open Go.RowKit

def numVal (l : List UInt8) : Nat := l.foldl (fun n c => 10 * n + (c.toNat - 48)) 0
theorem numVal_snoc (l : List UInt8) (c : UInt8) : numVal (l ++ [c]) = 10 * numVal l + (c.toNat - 48) := by simp [numVal]
theorem allBetween_mem {a b : Nat} {l : List UInt8} (h : allBetween a b l = true) {c : UInt8} (hc : c ∈ l) : a ≤ c.toNat ∧ c.toNat ≤ b := by
  unfold allBetween at h
  rw [List.all_eq_true] at h
  simpa using h c hc
theorem numVal_lt (l : List UInt8) (h : allBetween 48 57 l = true) (k : Nat) (hk : k ≤ l.length) : numVal (l.take k) < 10 ^ k := by
  induction k with
  | zero => simp [numVal]
  | succ k ih =>
    have h1 := ih (by omega)
    rw [List.take_succ_eq_append_getElem (by omega), numVal_snoc, Nat.pow_succ]
    have := allBetween_mem h (List.getElem_mem (l := l) (n := k) (by omega))
    omega

def stripMinus (l : List UInt8) : List UInt8 :=
  match l with
  | [] => []
  | c :: d => if c = 45 then d else c :: d
/-- Is it a number? (the digits behind the sign: d) -/
def numOk (l d : List UInt8) : Bool := allBetween 48 57 d && decide (d ≠ []) && decide (d.length ≤ 16) && !(d.head? == some 48 && l != [48]) && decide (numVal d ≤ 1000000000000000)
def isNum (l : List UInt8) : Bool := numOk l (stripMinus l)

theorem numVal_take (d : ByteArray) (k : Nat) (hk : k < d.size) (hall : allBetween 48 57 d.data.toList = true) (hl : d.size ≤ 16) :
    numVal (d.data.toList.take (k + 1)) = 10 * numVal (d.data.toList.take k) + (d[k].toNat - 48) ∧ numVal (d.data.toList.take k) < 10000000000000000 ∧ 48 ≤ d[k].toNat ∧ d[k].toNat ≤ 57 := by
  have hm : d[k] ∈ d.data.toList := List.mem_iff_getElem.2 ⟨k, by simpa using hk, rfl⟩
  refine ⟨by rw [take_snoc d k hk, numVal_snoc], ?_, allBetween_mem hall hm⟩
  have h2 := numVal_lt _ hall k (by simp; omega)
  have h4 : 10 ^ k ≤ 10 ^ 16 := Nat.pow_le_pow_right (by decide) (by omega)
  omega

theorem isNum_minus (s : ByteArray) (h : 0 < s.size) (h0 : s[0] = 45) : isNum s.data.toList = numOk s.data.toList (s.extract 1 s.size).data.toList := by
  have : s.data.toList = 45 :: (s.extract 1 s.size).data.toList := by
    rw [extract_toList, List.take_of_length_le (by simp)]
    have := List.drop_eq_getElem_cons (l := s.data.toList) (i := 0) (by simpa using h)
    simp at this
    rw [← h0]; simp only [List.drop_one]; exact this
  unfold isNum
  rw [this]; rfl
theorem isNum_plain (s : ByteArray) (h : ¬ ∃ h : 0 < s.size, s[0] = 45) : isNum s.data.toList = numOk s.data.toList s.data.toList := by
  unfold isNum
  congr 1
  match hs : s.data.toList with
  | [] => rfl
  | c :: d =>
    have hp : 0 < s.size := by have := congrArg List.length hs; simp at this; omega
    have : s[0] = c := by
      have : s.data.toList[0]'(by simpa using hp) = c := by simp [hs]
      exact this
    have hc : ¬ c = 45 := fun e => h ⟨hp, by rw [this, e]⟩
    simp [stripMinus, hc]

theorem ret_nb {k : IntKind} {n : Int} {a b : Bool} (h : b = a) : Ending.returned (.tuple #[.int k n, .bool a]) = .returned (.tuple #[.int k n, .bool b]) := by rw [h]
theorem numOk_all {l d : List UInt8} (h : allBetween 48 57 d = false) : numOk l d = false := by simp [numOk, h]
theorem numOk_nil {l : List UInt8} {d : ByteArray} (h : d.size = 0) : numOk l d.data.toList = false := by
  have : d.data.toList = [] := List.eq_nil_of_length_eq_zero (by simpa using h)
  simp [numOk, this]
theorem numOk_long {l : List UInt8} {d : ByteArray} (h : 16 < d.size) : numOk l d.data.toList = false := by
  have : ¬ d.size ≤ 16 := by omega
  simp [numOk, this]
theorem head0 {d : ByteArray} (h : 0 < d.size) : d.data.toList.head? = some d[0] := by
  rw [List.head?_eq_getElem?, List.getElem?_eq_getElem (by simpa using h)]; rfl
theorem numOk_zero {s d : ByteArray} (h : 0 < d.size) (h0 : d[0] = 48) (hl : (s.toList == [48]) = false) : numOk s.data.toList d.data.toList = false := by
  rw [ByteArray.toList_eq] at hl
  simp at hl
  simp [numOk, head0 h, h0, hl]
theorem numOk_big {l : List UInt8} {d : ByteArray} (h : 1000000000000000 < numVal d.data.toList) : numOk l d.data.toList = false := by
  have : ¬ numVal d.data.toList ≤ 1000000000000000 := by omega
  simp [numOk, this]
theorem numOk_yes {s d : ByteArray} (ha : allBetween 48 57 d.data.toList = true) (h : 0 < d.size) (hl : d.size ≤ 16) (h0 : d[0] = 48 → (s.toList == [48]) = true) (hv : numVal d.data.toList ≤ 1000000000000000) :
    numOk s.data.toList d.data.toList = true := by
  have hne : d.data.toList ≠ [] := fun e => by have := congrArg List.length e; simp only [List.length_nil, Array.length_toList] at this; have h' : d.size = d.data.size := rfl; omega
  have hl' : d.data.toList.length ≤ 16 := by simpa using hl
  rw [ByteArray.toList_eq] at h0
  simp only [numOk, ha, head0 h, decide_eq_true hne, decide_eq_true hl', decide_eq_true hv]
  by_cases e : d[0] = 48
  · have := h0 e; simp at this; simp [this]
  · simp [e]

set_option maxRecDepth 10000 in
set_option maxHeartbeats 2000000 in
theorem number_any (s : ByteArray) (w : World) (hs : s.size ≤ 1048577) :
    Calls Tryz.prog 215 #[.string s] w fun e w' => (∃ n : Int, e = .returned (.tuple #[.int .i64 n, .bool (isNum s.data.toList)])) ∧ w' = w := by
  by_cases hm : ∃ h : 0 < s.size, s[0] = 45
  · obtain ⟨hp, h0⟩ := hm
    rw [isNum_minus s hp h0]
    obtain ⟨bb, HB⟩ : ∃ bb, Hid (numOk s.data.toList (s.extract 1 s.size).data.toList = bb) := exHid _
    rw [HB.out]
    have h0' : ((s[0].toNat : Int) == 45) = true := by simp [h0]
    clear h0
    have hsz : (s.extract 1 s.size).size = s.size - 1 := by simp
    go_enter Tryz.func215, Tryz.ntmps215
    go_wp2_with (go_at_call 153; fail)
    generalize s.extract 1 s.size = d at *
    have hdz : d.size ≤ 1048577 := by omega
    clear hsz
    have hb := between_any d 48 57 w (by simp [maxLen]; omega) (by decide) (by decide)
    cases hall : allBetween 48 57 d.data.toList
    · rw [hall] at hb
      have HR : Hid _ := Hid.mk (HB.out.symm.trans (numOk_all hall))
      clear hall
      go_wp2_with (go_at_call 153; refine hb.mono ?_; rintro e w' ⟨rfl, rfl⟩)
      go_ret2
      exact ⟨⟨_, ret_nb HR.out⟩, rfl⟩
    rw [hall] at hb
    have HA : Hid _ := hall
    clear hall
    by_cases hz : d.size = 0
    · have HR : Hid _ := Hid.mk (HB.out.symm.trans (numOk_nil hz))
      clear HA
      go_wp2_with (go_at_call 153; refine hb.mono ?_; rintro e w' ⟨rfl, rfl⟩)
      go_ret2
      exact ⟨⟨_, ret_nb HR.out⟩, rfl⟩
    have hpos : 0 < d.size := by omega
    have hdne : ¬ d = ByteArray.empty := fun e => hz (by rw [e]; rfl)
    have hz' : ((d.size : Int) == 0) = false := by simp [hdne]
    clear hz
    by_cases hlong : 16 < d.size
    · have HR : Hid _ := Hid.mk (HB.out.symm.trans (numOk_long hlong))
      clear HA
      go_wp2_with (go_at_call 153; refine hb.mono ?_; rintro e w' ⟨rfl, rfl⟩)
      go_ret2
      exact ⟨⟨_, ret_nb HR.out⟩, rfl⟩
    have hgo : (d[0] = 48 → (s.toList == [48]) = true) ∨ (d[0] = 48 ∧ (s.toList == [48]) = false) := by
      by_cases e : d[0] = 48
      · cases hh : (s.toList == [48])
        · exact .inr ⟨e, rfl⟩
        · exact .inl fun _ => rfl
      · exact .inl fun h => absurd h e
    rcases hgo with hgo | ⟨he, hne⟩
    · have HG : Hid _ := hgo
      clear hgo
      by_cases he : d[0] = 48
      · have hne := HG.out he
        have he' : ((d[0].toNat : Int) == 48) = true := by simp [he]
        clear he
        go_wp2_with (go_at_call 153; refine hb.mono ?_; rintro e w' ⟨rfl, rfl⟩)
        go_loop [6, 7] (fun n i => ∃ k : Nat, k ≤ d.size ∧ i = .int .i64 k ∧ n = .int .i64 (numVal (d.data.toList.take k))) (fun _ i => d.size - (intOf i).toNat)
        case atStart => exact ⟨0, Nat.zero_le _, rfl, rfl⟩
        case round =>
          obtain ⟨k, hk, rfl, rfl⟩ := hrel
          by_cases hlt : k < d.size
          · obtain ⟨hv1, hv2, hv3, hv4⟩ := numVal_take d k hlt HA.out (by omega)
            have HV : Hid _ := hv1
            clear hv1
            generalize numVal (d.data.toList.take k) = m at *
            go_wp2
            go_round
            case rel => exact ⟨k + 1, by omega, by go_num, by rw [HV.out]; congr 1; omega⟩
            case measure => simp [intOf]; omega
          · have hfull : d.data.toList.take k = d.data.toList := List.take_of_length_le (by simp; omega)
            rw [hfull]
            clear hfull
            have hbig : numVal d.data.toList < 10000000000000000 := by
              have h2 := numVal_lt _ HA.out d.size (by simp)
              have h4 : 10 ^ d.size ≤ 10 ^ 16 := Nat.pow_le_pow_right (by decide) (by omega)
              rw [List.take_of_length_le (by simp)] at h2
              omega
            by_cases hbg : 1000000000000000 < numVal d.data.toList
            · have HR : Hid _ := Hid.mk (HB.out.symm.trans (numOk_big hbg))
              generalize numVal d.data.toList = m at *
              go_wp2
              go_ret2
              exact ⟨⟨_, ret_nb HR.out⟩, rfl⟩
            · have HR : Hid _ := Hid.mk (HB.out.symm.trans (numOk_yes HA.out hpos (by omega) HG.out (by omega)))
              generalize numVal d.data.toList = m at *
              go_wp2
              all_goals
                go_ret2
                exact ⟨⟨_, ret_nb HR.out⟩, rfl⟩
      · have he' : ((d[0].toNat : Int) == 48) = false := by
          simp; intro h; exact he (UInt8.toNat_inj.1 (by simp; omega))
        clear he
        go_wp2_with (go_at_call 153; refine hb.mono ?_; rintro e w' ⟨rfl, rfl⟩)
        go_loop [6, 7] (fun n i => ∃ k : Nat, k ≤ d.size ∧ i = .int .i64 k ∧ n = .int .i64 (numVal (d.data.toList.take k))) (fun _ i => d.size - (intOf i).toNat)
        case atStart => exact ⟨0, Nat.zero_le _, rfl, rfl⟩
        case round =>
          obtain ⟨k, hk, rfl, rfl⟩ := hrel
          by_cases hlt : k < d.size
          · obtain ⟨hv1, hv2, hv3, hv4⟩ := numVal_take d k hlt HA.out (by omega)
            have HV : Hid _ := hv1
            clear hv1
            generalize numVal (d.data.toList.take k) = m at *
            go_wp2
            go_round
            case rel => exact ⟨k + 1, by omega, by go_num, by rw [HV.out]; congr 1; omega⟩
            case measure => simp [intOf]; omega
          · have hfull : d.data.toList.take k = d.data.toList := List.take_of_length_le (by simp; omega)
            rw [hfull]
            clear hfull
            have hbig : numVal d.data.toList < 10000000000000000 := by
              have h2 := numVal_lt _ HA.out d.size (by simp)
              have h4 : 10 ^ d.size ≤ 10 ^ 16 := Nat.pow_le_pow_right (by decide) (by omega)
              rw [List.take_of_length_le (by simp)] at h2
              omega
            by_cases hbg : 1000000000000000 < numVal d.data.toList
            · have HR : Hid _ := Hid.mk (HB.out.symm.trans (numOk_big hbg))
              generalize numVal d.data.toList = m at *
              go_wp2
              go_ret2
              exact ⟨⟨_, ret_nb HR.out⟩, rfl⟩
            · have HR : Hid _ := Hid.mk (HB.out.symm.trans (numOk_yes HA.out hpos (by omega) HG.out (by omega)))
              generalize numVal d.data.toList = m at *
              go_wp2
              all_goals
                go_ret2
                exact ⟨⟨_, ret_nb HR.out⟩, rfl⟩
    · have HR : Hid _ := Hid.mk (HB.out.symm.trans (numOk_zero hpos he hne))
      have he' : ((d[0].toNat : Int) == 48) = true := by simp [he]
      clear HA he
      go_wp2_with (go_at_call 153; refine hb.mono ?_; rintro e w' ⟨rfl, rfl⟩)
      go_ret2
      exact ⟨⟨_, ret_nb HR.out⟩, rfl⟩
  · rw [isNum_plain s hm]
    obtain ⟨bb, HB⟩ : ∃ bb, Hid (numOk s.data.toList s.data.toList = bb) := exHid _
    rw [HB.out]
    by_cases hz : s.size = 0
    · have HR : Hid _ := Hid.mk (HB.out.symm.trans (numOk_nil hz))
      have hb := between_any s 48 57 w (by simp [maxLen]; omega) (by decide) (by decide)
      have ha : allBetween 48 57 s.data.toList = true := by
        have : s.data.toList = [] := List.eq_nil_of_length_eq_zero (by simpa using hz)
        simp [allBetween, this]
      rw [ha] at hb
      clear ha hm HB
      go_enter Tryz.func215, Tryz.ntmps215
      go_wp2_with (go_at_call 153; refine hb.mono ?_; rintro e w' ⟨rfl, rfl⟩)
      go_ret2
      exact ⟨⟨_, ret_nb HR.out⟩, rfl⟩
    have hpos : 0 < s.size := by omega
    have h0 : ¬ s[0] = 45 := fun e => hm ⟨hpos, e⟩
    have h0' : ((s[0].toNat : Int) == 45) = false := by
      simp; intro h; exact h0 (UInt8.toNat_inj.1 (by simp; omega))
    have hdne : ¬ s = ByteArray.empty := fun e => hz (by rw [e]; rfl)
    clear h0 hm hz
    go_enter Tryz.func215, Tryz.ntmps215
    go_wp2_with (go_at_call 153; fail)
    have hb := between_any s 48 57 w (by simp [maxLen]; omega) (by decide) (by decide)
    cases hall : allBetween 48 57 s.data.toList
    · rw [hall] at hb
      have HR : Hid _ := Hid.mk (HB.out.symm.trans (numOk_all hall))
      clear hall
      go_wp2_with (go_at_call 153; refine hb.mono ?_; rintro e w' ⟨rfl, rfl⟩)
      go_ret2
      exact ⟨⟨_, ret_nb HR.out⟩, rfl⟩
    rw [hall] at hb
    have HA : Hid _ := hall
    clear hall
    have hz' : ((s.size : Int) == 0) = false := by simp [hdne]
    by_cases hlong : 16 < s.size
    · have HR : Hid _ := Hid.mk (HB.out.symm.trans (numOk_long hlong))
      clear HA
      go_wp2_with (go_at_call 153; refine hb.mono ?_; rintro e w' ⟨rfl, rfl⟩)
      go_ret2
      exact ⟨⟨_, ret_nb HR.out⟩, rfl⟩
    have hgo : (s[0] = 48 → (s.toList == [48]) = true) ∨ (s[0] = 48 ∧ (s.toList == [48]) = false) := by
      by_cases e : s[0] = 48
      · cases hh : (s.toList == [48])
        · exact .inr ⟨e, rfl⟩
        · exact .inl fun _ => rfl
      · exact .inl fun h => absurd h e
    rcases hgo with hgo | ⟨he, hne⟩
    · have HG : Hid _ := hgo
      clear hgo
      by_cases he : s[0] = 48
      · have hne := HG.out he
        have he' : ((s[0].toNat : Int) == 48) = true := by simp [he]
        clear he
        go_wp2_with (go_at_call 153; refine hb.mono ?_; rintro e w' ⟨rfl, rfl⟩)
        go_loop [6, 7] (fun n i => ∃ k : Nat, k ≤ s.size ∧ i = .int .i64 k ∧ n = .int .i64 (numVal (s.data.toList.take k))) (fun _ i => s.size - (intOf i).toNat)
        case atStart => exact ⟨0, Nat.zero_le _, rfl, rfl⟩
        case round =>
          obtain ⟨k, hk, rfl, rfl⟩ := hrel
          by_cases hlt : k < s.size
          · obtain ⟨hv1, hv2, hv3, hv4⟩ := numVal_take s k hlt HA.out (by omega)
            have HV : Hid _ := hv1
            clear hv1
            generalize numVal (s.data.toList.take k) = m at *
            go_wp2
            go_round
            case rel => exact ⟨k + 1, by omega, by go_num, by rw [HV.out]; congr 1; omega⟩
            case measure => simp [intOf]; omega
          · have hfull : s.data.toList.take k = s.data.toList := List.take_of_length_le (by simp; omega)
            rw [hfull]
            clear hfull
            have hbig : numVal s.data.toList < 10000000000000000 := by
              have h2 := numVal_lt _ HA.out s.size (by simp)
              have h4 : 10 ^ s.size ≤ 10 ^ 16 := Nat.pow_le_pow_right (by decide) (by omega)
              rw [List.take_of_length_le (by simp)] at h2
              omega
            by_cases hbg : 1000000000000000 < numVal s.data.toList
            · have HR : Hid _ := Hid.mk (HB.out.symm.trans (numOk_big hbg))
              generalize numVal s.data.toList = m at *
              go_wp2
              go_ret2
              exact ⟨⟨_, ret_nb HR.out⟩, rfl⟩
            · have HR : Hid _ := Hid.mk (HB.out.symm.trans (numOk_yes HA.out hpos (by omega) HG.out (by omega)))
              generalize numVal s.data.toList = m at *
              go_wp2
              all_goals
                go_ret2
                exact ⟨⟨_, ret_nb HR.out⟩, rfl⟩
      · have he' : ((s[0].toNat : Int) == 48) = false := by
          simp; intro h; exact he (UInt8.toNat_inj.1 (by simp; omega))
        clear he
        go_wp2_with (go_at_call 153; refine hb.mono ?_; rintro e w' ⟨rfl, rfl⟩)
        go_loop [6, 7] (fun n i => ∃ k : Nat, k ≤ s.size ∧ i = .int .i64 k ∧ n = .int .i64 (numVal (s.data.toList.take k))) (fun _ i => s.size - (intOf i).toNat)
        case atStart => exact ⟨0, Nat.zero_le _, rfl, rfl⟩
        case round =>
          obtain ⟨k, hk, rfl, rfl⟩ := hrel
          by_cases hlt : k < s.size
          · obtain ⟨hv1, hv2, hv3, hv4⟩ := numVal_take s k hlt HA.out (by omega)
            have HV : Hid _ := hv1
            clear hv1
            generalize numVal (s.data.toList.take k) = m at *
            go_wp2
            go_round
            case rel => exact ⟨k + 1, by omega, by go_num, by rw [HV.out]; congr 1; omega⟩
            case measure => simp [intOf]; omega
          · have hfull : s.data.toList.take k = s.data.toList := List.take_of_length_le (by simp; omega)
            rw [hfull]
            clear hfull
            have hbig : numVal s.data.toList < 10000000000000000 := by
              have h2 := numVal_lt _ HA.out s.size (by simp)
              have h4 : 10 ^ s.size ≤ 10 ^ 16 := Nat.pow_le_pow_right (by decide) (by omega)
              rw [List.take_of_length_le (by simp)] at h2
              omega
            by_cases hbg : 1000000000000000 < numVal s.data.toList
            · have HR : Hid _ := Hid.mk (HB.out.symm.trans (numOk_big hbg))
              generalize numVal s.data.toList = m at *
              go_wp2
              go_ret2
              exact ⟨⟨_, ret_nb HR.out⟩, rfl⟩
            · have HR : Hid _ := Hid.mk (HB.out.symm.trans (numOk_yes HA.out hpos (by omega) HG.out (by omega)))
              generalize numVal s.data.toList = m at *
              go_wp2
              all_goals
                go_ret2
                exact ⟨⟨_, ret_nb HR.out⟩, rfl⟩
    · have HR : Hid _ := Hid.mk (HB.out.symm.trans (numOk_zero hpos he hne))
      have he' : ((s[0].toNat : Int) == 48) = true := by simp [he]
      clear HA he
      go_wp2_with (go_at_call 153; refine hb.mono ?_; rintro e w' ⟨rfl, rfl⟩)
      go_ret2
      exact ⟨⟨_, ret_nb HR.out⟩, rfl⟩
end Go.Proofs.YtnpjldffciociaaGreatDoor
