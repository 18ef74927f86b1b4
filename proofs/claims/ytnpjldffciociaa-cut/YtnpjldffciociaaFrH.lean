import Derived.Test.YtnpjldffciociaaFrG
import Derived.Test.YtnpjldffciociaaFrPure2
namespace Go.Proofs.Ytnpjldffciociaa
open Go.RowKit

set_option maxRecDepth 10000 in
set_option maxHeartbeats 400000 in
theorem kpick (c : Int) (n : Nat) (w : World) (hc1 : -9223372036854775808 ≤ c) (hc2 : c ≤ 9223372036854775807) (hn : 0 < n) (hn2 : n ≤ 4194304) :
    Calls Try.prog 10 #[.int .i64 c, .int .i64 n] w fun e w' => (∃ r : Nat, r < n ∧ e = .returned (.int .i64 r)) ∧ w' = w := by
  by_cases h0 : c < 0
  · have hr : ((-(c + 1)).toNat % n : Nat) < n := Nat.mod_lt _ hn
    go_enter Try.func10, Try.ntmps10
    go_wp2
    go_ret
    refine ⟨⟨(-(c + 1)).toNat % n, hr, ret_int' ?_⟩, rfl⟩
    rw [← Int.neg_tmod, Int.tmod_eq_emod_of_nonneg (by omega), Int.natCast_emod, Int.toNat_of_nonneg (by omega)]
  · have hr : (c.toNat % n : Nat) < n := Nat.mod_lt _ hn
    go_enter Try.func10, Try.ntmps10
    go_wp2
    go_ret
    refine ⟨⟨c.toNat % n, hr, ret_int' ?_⟩, rfl⟩
    rw [Int.natCast_emod, Int.toNat_of_nonneg (by omega)]
end Go.Proofs.Ytnpjldffciociaa
