import Derived.Test.YtnpjldffciociaaProg
import Derived.Test.YtnpjldffciociaaFrPure
import Derived.WalkKit
import Derived.WalkSpells
import Derived.WalkLawsBesides
import Derived.Laws.BitsAllLaws
namespace Go.Proofs.Ytnpjldffciociaa
open Go.RowKit

theorem hidM {p : Prop} (h : p) : Hid p := h
theorem ret_int' {k : IntKind} {a b : Int} (h : a = b) : Ending.returned (.int k a) = .returned (.int k b) := by rw [h]
theorem val_int {k : IntKind} {a b : Int} (h : a = b) : Value.int k a = .int k b := by rw [h]
theorem turnN_odd {h : Nat} (e : h % 2 = 1) : turnN h = h / 2 ^^^ 3988292384 := by unfold turnN; rw [if_pos e]
theorem turnN_even {h : Nat} (e : ¬ h % 2 = 1) : turnN h = h / 2 := by unfold turnN; rw [if_neg e]
theorem xor32 (a b : Nat) (ha : a < 4294967296) (hb : b < 4294967296) : bits .xor .u32 (a : Int) (b : Int) = ((a ^^^ b : Nat) : Int) := u32_xor_nat a b ha hb

set_option maxRecDepth 10000 in
set_option maxHeartbeats 1000000 in
theorem ref_sum (s : ByteArray) (w : World) (hs : s.size ≤ maxLen) :
    Calls Try.prog 16 #[.string s] w fun e w' => e = .returned (.int .u32 (crcL s.data.toList)) ∧ w' = w := by
  unfold maxLen at hs
  go_enter Try.func16, Try.ntmps16
  go_wp2
  go_loop [3, 4] (fun h i => ∃ k : Nat, k ≤ s.size ∧ i = .int .i64 k ∧ h = .int .u32 (sumL (s.data.toList.take k) 4294967295 : Nat)) (fun _ i => s.size - (intOf i).toNat)
  case atStart => exact ⟨0, Nat.zero_le _, rfl, rfl⟩
  case round =>
    obtain ⟨k, hk, rfl, rfl⟩ := hrel
    have hlt := sumL_lt (s.data.toList.take k) (h := 4294967295) (by decide)
    by_cases hlt2 : k < s.size
    · have HS : Hid (sumL (s.data.toList.take (k + 1)) 4294967295 = byteN (sumL (s.data.toList.take k) 4294967295) s[k]) := hidM (by
        rw [List.take_succ_eq_append_getElem (by simpa using hlt2), sumL_snoc]; rfl)
      generalize hh : sumL (s.data.toList.take k) 4294967295 = h at *
      have hc := s[k].toNat_lt
      go_wp2
      go_loop [3, 5] (fun x i => ∃ j : Nat, j ≤ 8 ∧ i = .int .i64 j ∧ x = .int .u32 (turnsN j (h ^^^ s[k].toNat) : Nat)) (fun _ i => 8 - (intOf i).toNat)
      case atStart => exact ⟨0, Nat.zero_le _, rfl, val_int (xor32 _ _ hlt (by omega))⟩
      case round =>
        obtain ⟨j, hj, rfl, rfl⟩ := hrel
        have hlt3 := turnsN_lt j (xorB_lt hlt s[k])
        have ht : turnsN (j + 1) (h ^^^ s[k].toNat) = turnN (turnsN j (h ^^^ s[k].toNat)) := rfl
        by_cases hj8 : j < 8
        · generalize hx : turnsN j (h ^^^ s[k].toNat) = x at *
          by_cases ho : x % 2 = 1
          · go_wp2
            refine ⟨⟨j + 1, by omega, by go_num, val_int ?_⟩, by simp [intOf]; omega⟩
            rw [ht, turnN_odd ho]
            exact xor32 (x / 2) 3988292384 (by omega) (by decide)
          · go_wp2
            refine ⟨⟨j + 1, by omega, by go_num, val_int ?_⟩, by simp [intOf]; omega⟩
            rw [ht, turnN_even ho]
            rfl
        · have hj9 : j = 8 := by omega
          subst hj9
          go_wp2
          refine ⟨⟨k + 1, by omega, by go_num, val_int ?_⟩, by simp [intOf]; omega⟩
          rw [HS.out]; rfl
    · go_wp2
      go_ret
      refine ⟨ret_int' ?_, rfl⟩
      have hkk : s.data.toList.take k = s.data.toList := List.take_of_length_le (by simp; omega)
      rw [hkk] at hlt ⊢
      unfold crcL
      omega
end Go.Proofs.Ytnpjldffciociaa
