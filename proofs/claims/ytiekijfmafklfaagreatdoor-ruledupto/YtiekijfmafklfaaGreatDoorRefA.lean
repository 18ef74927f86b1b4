import Derived.Test.YtiekijfmafklfaaGreatDoorKit
namespace Go.Proofs.YtiekijfmafklfaaGreatDoor
open Go.RowKit

theorem take_snoc (s : ByteArray) (k : Nat) (h : k < s.size) : s.data.toList.take (k + 1) = s.data.toList.take k ++ [s[k]] := by
  rw [List.take_succ_eq_append_getElem (by simpa using h)]; rfl

/-- Are all bytes from a to b? -/
def allBetween (a b : Nat) (l : List UInt8) : Bool := l.all fun c => decide (a ≤ c.toNat) && decide (c.toNat ≤ b)

theorem allBetween_snoc (a b : Nat) (l : List UInt8) (c : UInt8) : allBetween a b (l ++ [c]) = (allBetween a b l && (decide (a ≤ c.toNat) && decide (c.toNat ≤ b))) := by
  simp [allBetween]

theorem allBetween_bad (a b : Nat) (s : ByteArray) (k : Nat) (h : k < s.size) (hb : ¬ (a ≤ s[k].toNat ∧ s[k].toNat ≤ b)) : allBetween a b s.data.toList = false := by
  unfold allBetween
  rw [List.all_eq_false]
  refine ⟨s[k], ?_, by simpa [Decidable.not_and_iff_or_not] using hb⟩
  exact List.mem_iff_getElem.2 ⟨k, by simpa using h, rfl⟩


set_option maxHeartbeats 400000 in
theorem between_any (s : ByteArray) (a b : Nat) (w : World) (hs : s.size ≤ maxLen) (_ha : a ≤ 255) (_hb : b ≤ 255) :
    Calls Tryz.prog 54 #[.string s, .int .u8 a, .int .u8 b] w fun e w' => e = .returned (.bool (allBetween a b s.data.toList)) ∧ w' = w := by
  unfold maxLen at hs
  go_enter Tryz.func54, Tryz.ntmps54
  go_wp2
  go_loop [7] (fun i => ∃ k : Nat, k ≤ s.size ∧ i = .int .i64 k ∧ allBetween a b (s.data.toList.take k) = true) (fun i => s.size - (intOf i).toNat)
  case atStart => exact ⟨0, Nat.zero_le _, rfl, rfl⟩
  case round =>
    obtain ⟨k, hk, rfl, hall⟩ := hrel
    have HA : Hid (allBetween a b (s.data.toList.take k) = true) := hall
    clear hall
    by_cases hlt : k < s.size
    · have HS := allBetween_snoc a b (s.data.toList.take k) s[k]
      rw [← take_snoc s k hlt] at HS
      have HS' : Hid (allBetween a b (s.data.toList.take (k + 1)) = (allBetween a b (s.data.toList.take k) && (decide (a ≤ s[k].toNat) && decide (s[k].toNat ≤ b)))) := HS
      clear HS
      go_wp2
      case roundEnd =>
        refine ⟨⟨k + 1, by omega, by go_num, ?_⟩, by simp [intOf]; omega⟩
        rw [HS'.out, HA.out]
        simp; omega
      all_goals
        go_ret
        exact ⟨ret_bool (allBetween_bad a b s k hlt (by omega)).symm, rfl⟩
    · go_wp2
      go_ret
      exact ⟨ret_bool (by rw [← HA.out, List.take_of_length_le (by simp; omega)]), rfl⟩
end Go.Proofs.YtiekijfmafklfaaGreatDoor
