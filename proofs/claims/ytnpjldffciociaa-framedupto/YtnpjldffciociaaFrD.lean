import Derived.Test.YtnpjldffciociaaFrC
namespace Go.Proofs.Ytnpjldffciociaa
open Go.RowKit

set_option maxRecDepth 10000 in
set_option maxHeartbeats 400000 in
theorem psizeOf (n : Nat) (w : World) : Calls Try.prog 22 #[.int .u64 n] w fun e w' => e = .returned (.int .u32 ((n % 4294967296 : Nat) : Int)) ∧ w' = w := by
  go_enter Try.func22, Try.ntmps22
  go_wp2
  go_ret
  exact ⟨ret_int' (by simp), rfl⟩

theorem cells_bs (p : List UInt8) : [] ++ Lib.byteCells (fourL (p.length % 4294967296)) ++ Lib.strCells (bs p) ++ Lib.byteCells (fourL (crcL p)) = Lib.byteCells (packL p) := by
  rw [Lib.strCells_eq, bs_toList, packL, Lib.byteCells_append, Lib.byteCells_append]; simp

set_option maxRecDepth 10000 in
set_option maxHeartbeats 1000000 in
theorem ppack (p : List UInt8) (w : World) (hs : p.length ≤ 140737488350000) :
    Calls Try.prog 17 #[.string (bs p)] w fun e w' => e = .returned (.string (bs (packL p))) ∧ Below w.heap.size w w' := by
  have hsz : (bs p).size = p.length := rfl
  have hsum : ∀ w, Calls Try.prog 24 #[.string (bs p)] w fun e w' => e = .returned (.int .u32 (crcL p)) ∧ w' = w := fun w => psum (bs p) w (by unfold maxLen; omega)
  obtain ⟨m, hm⟩ : ∃ m, m = p.length % 4294967296 := ⟨_, rfl⟩
  have hm' : m < 4294967296 := by omega
  have hsize := fun w => psizeOf p.length w
  rw [← hm] at hsize
  have HC := hidM (cells_bs p)
  rw [← hm] at HC
  have hcrc := crcL_lt p
  clear hm
  go_enter Try.func17, Try.ntmps17
  go_wp2_with (go_at_call 20; refine (Try.Builder_Grow_fresh w.heap.size w.heap.size (p.length + 8) _ (Nat.le_refl _) (heap_alloc_new w _) (by simp) (by omega)).mono ?_)
  rintro e w1 ⟨rfl, h1, hb1⟩
  have Hb1 := hidM (((Below.refl w.heap.size w).alloc (Nat.le_refl _) _).trans hb1)
  have H1 := hidM h1
  clear h1 hb1
  have hs1 : w.heap.size ≤ w1.heap.size := Hb1.out.size
  go_wp2_with (first
    | (go_at_call 22; refine (hsize _).mono ?_; rintro e w' ⟨rfl, hw⟩; obtain rfl := hw.symm)
    | (go_at_call 21; refine (pwriteNumber w.heap.size w.heap.size m [] w1 H1.out hm' (by simp) hs1).mono ?_))
  rintro e w2 ⟨rfl, h2, hb2⟩
  have Hb2 := hidM (Hb1.out.trans hb2)
  have H2 := hidM h2
  clear h2 hb2 H1 Hb1 hs1
  have hs2 : w.heap.size ≤ w2.heap.size := Hb2.out.size
  go_wp2_with (go_at_call 23; refine (bWriteString w.heap.size w.heap.size _ (bs p) w2 (Or.inr H2.out) (by simp [Lib.byteCells, fourL]; omega) hs2).mono ?_)
  rintro e w3 ⟨rfl, h3, hb3⟩
  have Hb3 := hidM (Hb2.out.trans hb3)
  have H3 := hidM h3
  clear h3 hb3 H2 Hb2 hs2
  have hs3 : w.heap.size ≤ w3.heap.size := Hb3.out.size
  go_wp2_with (first
    | (go_at_call 24; refine (hsum _).mono ?_; rintro e w' ⟨rfl, hw⟩; obtain rfl := hw.symm)
    | (go_at_call 21; refine (pwriteNumber w.heap.size w.heap.size (crcL p) _ w3 H3.out hcrc (by simp [Lib.byteCells, Lib.strCells, fourL]; omega) hs3).mono ?_))
  rintro e w4 ⟨rfl, h4, hb4⟩
  have Hb4 := hidM (Hb3.out.trans hb4)
  rw [HC.out] at h4
  have H4 := hidM h4
  clear h4 hb4 H3 Hb3 hs3
  have hs4 : w.heap.size ≤ w4.heap.size := Hb4.out.size
  go_wp2_with (go_at_call 25; refine (Try.Builder_String_any w.heap.size w.heap.size (packL p) w4 (Or.inr H4.out) hs4).mono ?_)
  rintro e w5 ⟨rfl, hb5⟩
  have Hb5 := hidM (Hb4.out.trans hb5)
  clear hb5 H4 Hb4 hs4
  go_wp2
  go_ret
  exact ⟨rfl, Hb5.out⟩

set_option maxRecDepth 10000 in
set_option maxHeartbeats 400000 in
theorem vpack (p : List UInt8) (w : World) (hs : p.length ≤ 140737488350000) :
    Calls Try.prog 9 #[.string (bs p)] w fun e w' => e = .returned (.string (bs (packL p))) ∧ Below w.heap.size w w' := by
  have hp := ppack p w hs
  go_enter Try.func9, Try.ntmps9
  go_wp2_with (go_at_call 17; refine hp.mono ?_)
  rintro e w1 ⟨rfl, h1⟩
  go_wp2
  go_ret
  exact ⟨rfl, h1⟩
end Go.Proofs.Ytnpjldffciociaa
