import Derived.Test.YtnpjldffciociaaFrA
import Derived.Test.YtnpjldffciociaaFrKit
namespace Go.Proofs.Ytnpjldffciociaa
open Go.RowKit

theorem four_cells (n : Nat) (hn : n < 4294967296) (w : World) : ∀ j (hj : j < (fourL n).length), (w.alloc (.cells #[.int .u8 ((n : Int) / 16777216), .int .u8 ((n : Int) / 65536 % 256), .int .u8 ((n : Int) / 256 % 256), .int .u8 ((n : Int) % 256)] 5)).cell? ((⟨w.heap.size, 0, none⟩ : Addr).add j) = some (.int .u8 ((fourL n)[j].toNat : Int)) := by
  intro j hj
  have hj' : j < 4 := hj
  have : j = 0 ∨ j = 1 ∨ j = 2 ∨ j = 3 := by omega
  have hd : n / 16777216 % 256 = n / 16777216 := Nat.mod_eq_of_lt (by omega)
  rcases this with rfl | rfl | rfl | rfl <;> simp [Addr.add, fourL, hd]

set_option maxRecDepth 10000 in
set_option maxHeartbeats 400000 in
theorem ref_four (n : Nat) (w : World) (hn : n < 4294967296) : Calls Try.prog 15 #[.int .u32 n] w fun e w' => e = .returned (.string (bs (fourL n))) ∧ Below w.heap.size w w' := by
  have hcv : (convert 43 9 (.slice (some ⟨w.heap.size, 0, none⟩) 4 4)).run Try.prog _ = .ok (.string (bs (fourL n))) _ :=
    run_convert_bytes_back (P := Try.prog) _ 43 9 5 ⟨w.heap.size, 0, none⟩ 4 (fourL n) Try.underlying43 Try.underlying5 Try.underlying9 (four_cells n hn w)
  go_enter Try.func15, Try.ntmps15
  go_wp2
  go_ret
  exact ⟨rfl, (Below.refl _ _).alloc (Nat.le_refl _) _⟩

theorem bs_append (a b : List UInt8) : bs a ++ bs b = bs (a ++ b) := by
  apply ByteArray.ext
  simp [bs]

set_option maxRecDepth 10000 in
set_option maxHeartbeats 400000 in
theorem ref_pack (p : List UInt8) (w : World) (hs : p.length ≤ 140737488350000) :
    Calls Try.prog 7 #[.string (bs p)] w fun e w' => e = .returned (.string (bs (packL p))) ∧ Below w.heap.size w w' := by
  have hsz : (bs p).size = p.length := rfl
  have hsum : ∀ w, Calls Try.prog 16 #[.string (bs p)] w fun e w' => e = .returned (.int .u32 (crcL p)) ∧ w' = w := fun w => ref_sum (bs p) w (by unfold maxLen; omega)
  have h1 : ∀ x : Int, x = ((p.length % 4294967296 : Nat) : Int) → ∀ w, Calls Try.prog 15 #[.int .u32 x] w fun e w' => e = .returned (.string (bs (fourL (p.length % 4294967296)))) ∧ Below w.heap.size w w' := by
    rintro x rfl w; exact ref_four _ w (by omega)
  have h2 := fun w => ref_four (crcL p) w (crcL_lt p)
  have e1 : (fourL (p.length % 4294967296)).length = 4 := rfl
  have e2 : (fourL (crcL p)).length = 4 := rfl
  go_enter Try.func7, Try.ntmps7
  go_wp2_with (first
    | (go_at_call 16; refine (hsum _).mono ?_; rintro e w' ⟨rfl, hw⟩; obtain rfl := hw.symm)
    | (go_at_call 15; with_reducible refine (h2 _).mono ?_; rintro e w2 ⟨rfl, hw2⟩)
    | (go_at_call 15; refine (h1 _ (by simp) _).mono ?_; rintro e w1 ⟨rfl, hw1⟩))
  go_ret
  refine ⟨?_, hw1.trans (hw2.mono hw1.size)⟩
  rw [bs_append, bs_append]; rfl
end Go.Proofs.Ytnpjldffciociaa
