import Derived.Test.YtnpjldffciociaaFrA
namespace Go.Proofs.Ytnpjldffciociaa
open Go.RowKit

theorem and1 (x : Nat) (hx : x < 4294967296) : bits .and .u32 (x : Int) 1 = ((x % 2 : Nat) : Int) := by
  have := u32_and_nat x 1 hx (by decide)
  rw [nat_mask1] at this
  exact this
theorem or8 (x c : Nat) (hx : x < 16777216) (hc : c < 256) : bits .or .u32 ((x : Int) * 256) (c : Int) = ((x * 256 + c : Nat) : Int) := by
  have h := u32_or_nat (x * 256) c (by omega) (by omega)
  rw [nat_join 8 _ _ (by omega) (by omega)] at h
  exact h

theorem ones_xor (x : Nat) (hx : x < 4294967296) : 4294967295 ^^^ x = 4294967295 - x := by
  have h := congrArg BitVec.toNat (BitVec.xor_allOnes (x := BitVec.ofNat 32 x))
  rw [BitVec.toNat_xor, BitVec.toNat_not, BitVec.toNat_allOnes, BitVec.toNat_ofNat, Nat.mod_eq_of_lt (by simpa using hx)] at h
  rw [Nat.xor_comm]
  simpa using h
theorem not32 (x : Nat) (hx : x < 4294967296) : bits .xor .u32 IntKind.u32.max (x : Int) = ((4294967295 - x : Nat) : Int) := by
  have h := u32_xor_nat 4294967295 x (by decide) hx
  rw [ones_xor x hx] at h
  exact h

set_option maxRecDepth 10000 in
set_option maxHeartbeats 1000000 in
theorem psumByte (h : Nat) (w : World) (hh : h < 4294967296) :
    Calls Try.prog 31 #[.int .u32 h] w fun e w' => e = .returned (.int .u32 (turnsN 8 h : Nat)) ∧ w' = w := by
  go_enter Try.func31, Try.ntmps31
  go_wp2
  go_loop [0, 4] (fun x i => ∃ j : Nat, j ≤ 8 ∧ i = .int .i64 j ∧ x = .int .u32 (turnsN j h : Nat)) (fun _ i => 8 - (intOf i).toNat)
  case atStart => exact ⟨0, Nat.zero_le _, rfl, rfl⟩
  case round =>
    obtain ⟨j, hj, rfl, rfl⟩ := hrel
    have hlt3 := turnsN_lt j hh
    have ht : turnsN (j + 1) h = turnN (turnsN j h) := rfl
    by_cases hj8 : j < 8
    · generalize hx : turnsN j h = x at *
      have ha := and1 x hlt3
      by_cases ho : x % 2 = 1
      · rw [ho] at ha
        go_wp2
        refine ⟨⟨j + 1, by omega, by go_num, val_int ?_⟩, by simp [intOf]; omega⟩
        rw [ht, turnN_odd ho]
        exact xor32 (x / 2) 3988292384 (by omega) (by decide)
      · have ho' : x % 2 = 0 := by omega
        rw [ho'] at ha
        go_wp2
        refine ⟨⟨j + 1, by omega, by go_num, val_int ?_⟩, by simp [intOf]; omega⟩
        rw [ht, turnN_even ho]
        rfl
    · have hj9 : j = 8 := by omega
      subst hj9
      go_wp2
      go_ret
      exact ⟨rfl, rfl⟩

set_option maxRecDepth 10000 in
set_option maxHeartbeats 1000000 in
theorem psum (s : ByteArray) (w : World) (hs : s.size ≤ maxLen) :
    Calls Try.prog 24 #[.string s] w fun e w' => e = .returned (.int .u32 (crcL s.data.toList)) ∧ w' = w := by
  unfold maxLen at hs
  go_enter Try.func24, Try.ntmps24
  go_wp2
  go_loop [3, 7] (fun h i => ∃ k : Nat, k ≤ s.size ∧ i = .int .i64 k ∧ h = .int .u32 (sumL (s.data.toList.take k) 4294967295 : Nat)) (fun _ i => s.size - (intOf i).toNat)
  case atStart => exact ⟨0, Nat.zero_le _, rfl, rfl⟩
  case round =>
    obtain ⟨k, hk, rfl, rfl⟩ := hrel
    have hlt := sumL_lt (s.data.toList.take k) (h := 4294967295) (by decide)
    by_cases hlt2 : k < s.size
    · have HS : Hid (sumL (s.data.toList.take (k + 1)) 4294967295 = byteN (sumL (s.data.toList.take k) 4294967295) s[k]) := hidM (by
        rw [List.take_succ_eq_append_getElem (by simpa using hlt2), sumL_snoc]; rfl)
      generalize hh : sumL (s.data.toList.take k) 4294967295 = h at *
      have hc := s[k].toNat_lt
      have hx := xor32 h s[k].toNat hlt (by omega)
      have hp := psumByte (h ^^^ s[k].toNat) w (xorB_lt hlt s[k])
      go_wp2_with (go_at_call 31; refine hp.mono ?_; rintro e w' ⟨rfl, hw⟩; obtain rfl := hw.symm)
      refine ⟨⟨k + 1, by omega, by go_num, val_int ?_⟩, by simp [intOf]; omega⟩
      rw [HS.out]; rfl
    · go_wp2
      go_ret
      refine ⟨ret_int' ?_, rfl⟩
      have hkk : s.data.toList.take k = s.data.toList := List.take_of_length_le (by simp; omega)
      rw [hkk] at hlt ⊢
      exact not32 _ hlt
def pnL (l : List UInt8) : Nat := l.foldl (fun n c => n * 256 + c.toNat) 0
theorem pnL_snoc (l : List UInt8) (c : UInt8) : pnL (l ++ [c]) = pnL l * 256 + c.toNat := by simp [pnL]
theorem pnL_lt (s : ByteArray) : ∀ (k : Nat), k ≤ s.size → pnL (s.data.toList.take k) < 256 ^ k := by
  intro k
  induction k with
  | zero => intro _; simp [pnL]
  | succ k ih =>
    intro h
    have h1 := ih (by omega)
    rw [List.take_succ_eq_append_getElem (by simp; omega), pnL_snoc]
    have h2 := (s.data.toList[k]'(by simp; omega)).toNat_lt
    rw [Nat.pow_succ]; omega
theorem pnL_num (l : List UInt8) (h : 4 ≤ l.length) : pnL (l.take 4) = numL l := by
  match l, h with
  | a :: b :: c :: d :: r, _ => simp [pnL, numL]

set_option maxRecDepth 10000 in
set_option maxHeartbeats 1000000 in
theorem preadNumber (s : ByteArray) (w : World) (h4 : 4 ≤ s.size) :
    Calls Try.prog 32 #[.string s] w fun e w' => e = .returned (.int .u32 (numL s.data.toList)) ∧ w' = w := by
  go_enter Try.func32, Try.ntmps32
  go_wp2
  go_loop [3, 5] (fun x i => ∃ k : Nat, k ≤ 4 ∧ i = .int .i64 k ∧ x = .int .u32 (pnL (s.data.toList.take k) : Nat)) (fun _ i => 4 - (intOf i).toNat)
  case atStart => exact ⟨0, Nat.zero_le _, rfl, rfl⟩
  case round =>
    obtain ⟨k, hk, rfl, rfl⟩ := hrel
    by_cases hk4 : k < 4
    · have HS : Hid (pnL (s.data.toList.take (k + 1)) = pnL (s.data.toList.take k) * 256 + (s[k]'(by omega)).toNat) := hidM (by
        rw [List.take_succ_eq_append_getElem (by simp; omega), pnL_snoc]; rfl)
      have hlt : pnL (s.data.toList.take k) < 16777216 := by
        have h1 := pnL_lt s k (by omega)
        have h2 : 256 ^ k ≤ 256 ^ 3 := Nat.pow_le_pow_right (by decide) (by omega)
        omega
      have hks : k < s.size := by omega
      have hc := s[k].toNat_lt
      generalize hx : pnL (s.data.toList.take k) = x at *
      have ho := or8 x s[k].toNat (by omega) (by omega)
      go_wp2
      refine ⟨⟨k + 1, by omega, by go_num, val_int ?_⟩, by simp [intOf]; omega⟩
      rw [HS.out]
      first | exact ho | rfl
    · have hk5 : k = 4 := by omega
      subst hk5
      go_wp2
      go_ret
      exact ⟨ret_int' (by rw [pnL_num _ (by simpa using h4)]), rfl⟩
def fstV (s : ByteArray) : Fst → Value
  | none => .tuple #[.string ByteArray.empty, .int .i64 0]
  | some none => .tuple #[.string ByteArray.empty, .int .i64 2]
  | some (some n) => .tuple #[.string (s.extract 4 (4 + n)), .int .i64 1]

set_option maxRecDepth 10000 in
set_option maxHeartbeats 1000000 in
theorem pfirst (s : ByteArray) (w : World) (hs : s.size ≤ maxLen) :
    Calls Try.prog 26 #[.string s] w fun e w' => e = .returned (fstV s (fstL s.data.toList)) ∧ w' = w := by
  unfold maxLen at hs
  have hl : s.data.toList.length = s.size := by simp
  by_cases h4 : s.size < 4
  · have hf : fstL s.data.toList = none := by unfold fstL; rw [if_pos (by omega)]
    rw [hf]
    go_enter Try.func26, Try.ntmps26
    go_wp2
    go_ret2
    exact ⟨rfl, rfl⟩
  · have hr := preadNumber s w (by omega)
    generalize hn : numL s.data.toList = n at hr
    by_cases hb : n < 1 ∨ 1000 < n
    · have hf : fstL s.data.toList = some none := by unfold fstL; rw [if_neg (by omega), if_pos (by omega)]
      rw [hf]
      go_enter Try.func26, Try.ntmps26
      rcases hb with hb | hb
      all_goals
        go_wp2_with (go_at_call 32; refine hr.mono ?_; rintro e w' ⟨rfl, hw⟩; obtain rfl := hw.symm)
        go_ret2
        exact ⟨rfl, rfl⟩
    · have hb1 : 1 ≤ n := by omega
      have hb2 : n ≤ 1000 := by omega
      by_cases h8 : s.size < n + 8
      · have hf : fstL s.data.toList = none := by unfold fstL; rw [if_neg (by omega), if_neg (by omega), if_pos (by omega)]
        rw [hf]
        go_enter Try.func26, Try.ntmps26
        go_wp2_with (go_at_call 32; refine hr.mono ?_; rintro e w' ⟨rfl, hw⟩; obtain rfl := hw.symm)
        go_ret2
        exact ⟨rfl, rfl⟩
      · have hr2 := preadNumber (s.extract (4 + n) s.size) w (by rw [ByteArray.size_extract]; omega)
        have hp := psum (s.extract 4 (4 + n)) w (by rw [ByteArray.size_extract]; unfold maxLen; omega)
        rw [extract_toList] at hr2 hp
        have e1 : (s.data.toList.take s.size).drop (4 + n) = s.data.toList.drop (4 + n) := by rw [List.take_of_length_le (by omega)]
        have e2 : (s.data.toList.take (4 + n)).drop 4 = (s.data.toList.drop 4).take n := by rw [List.drop_take]; congr 1; omega
        rw [e1] at hr2
        rw [e2] at hp
        clear e1 e2
        have hq := crcL_lt ((s.data.toList.drop 4).take n)
        have hq2 := numL_lt (s.data.toList.drop (4 + n))
        have hfst : fstL s.data.toList = if numL (s.data.toList.drop (4 + n)) = crcL ((s.data.toList.drop 4).take n) then some (some n) else some none := by
          unfold fstL; rw [if_neg (by omega), if_neg (by omega), if_neg (by omega), hn]
        rw [hfst]
        clear hfst hn
        generalize crcL ((s.data.toList.drop 4).take n) = a at *
        generalize numL (s.data.toList.drop (4 + n)) = b at *
        by_cases hab : b = a
        all_goals
          first | rw [if_pos hab] | rw [if_neg hab]
          go_enter Try.func26, Try.ntmps26
          go_wp2_with (first
            | (go_at_call 32; with_reducible refine hr.mono ?_; rintro e w' ⟨rfl, hw⟩; obtain rfl := hw.symm)
            | (go_at_call 32; with_reducible refine hr2.mono ?_; rintro e w' ⟨rfl, hw⟩; obtain rfl := hw.symm)
            | (go_at_call 24; refine hp.mono ?_; rintro e w' ⟨rfl, hw⟩; obtain rfl := hw.symm))
          go_ret2
          exact ⟨rfl, rfl⟩
end Go.Proofs.Ytnpjldffciociaa
