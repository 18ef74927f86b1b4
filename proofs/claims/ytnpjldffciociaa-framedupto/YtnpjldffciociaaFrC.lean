import Derived.Test.YtnpjldffciociaaFrLay
import Derived.Test.YtnpjldffciociaaFrB
namespace Go.Proofs.Ytnpjldffciociaa
open Go.RowKit

abbrev BAt (B b : Nat) (bs : List Value) (w : World) : Prop := Lib.BuilderAt 47 5 B b (.pointer (some ⟨b, 0, none⟩)) bs w
def nbyte (n j : Nat) : Nat := n / 2 ^ (24 - 8 * j) % 256
theorem four_take (n j : Nat) (hj : j < 4) : Lib.byteCells ((fourL n).take (j + 1)) = Lib.byteCells ((fourL n).take j) ++ [.int .u8 (nbyte n j)] := by
  have : j = 0 ∨ j = 1 ∨ j = 2 ∨ j = 3 := by omega
  rcases this with rfl | rfl | rfl | rfl <;> simp [fourL, Lib.byteCells, nbyte]

set_option maxRecDepth 10000 in
set_option maxHeartbeats 1000000 in
theorem pwriteNumber (B b n : Nat) (bs : List Value) (w : World) (h : BAt B b bs w) (hn : n < 4294967296) (hlen : bs.length + 4 ≤ 140737488355328) (hBw : B ≤ w.heap.size) :
    Calls Try.prog 21 #[.pointer (some ⟨b, 0, none⟩), .int .u32 n] w fun e w' => e = .returned (.tuple #[]) ∧ BAt B b (bs ++ Lib.byteCells (fourL n)) w' ∧ Below B w w' := by
  go_enter Try.func21, Try.ntmps21
  go_wp2
  go_loopw [4] (fun sh wr => ∃ j : Nat, j ≤ 4 ∧ sh = .int .i64 (24 - 8 * (j : Int)) ∧ Hid (BAt B b (bs ++ Lib.byteCells ((fourL n).take j)) wr) ∧ Hid (Below B w wr)) (fun sh _ => (intOf sh + 8).toNat)
  case atStart => exact ⟨0, by omega, rfl, hidM (by simpa [Lib.byteCells] using h), hidM (Below.refl _ _)⟩
  case round =>
    obtain ⟨j, hj, rfl, HB, HW⟩ := hrel
    have hsz : B ≤ wr.heap.size := Nat.le_trans hBw HW.out.size
    by_cases hj4 : j < 4
    · have HF := hidM (four_take n j hj4)
      have hl : (bs ++ Lib.byteCells ((fourL n).take j)).length + 1 ≤ 140737488355328 := by
        simp [Lib.byteCells, fourL]; omega
      have hc : ∀ c : Int, c = (nbyte n j : Nat) → Calls Try.prog 30 #[.pointer (some ⟨b, 0, none⟩), .int .u8 c] wr fun e w' => e = .returned .nilIface ∧
          (BAt B b (bs ++ Lib.byteCells ((fourL n).take (j + 1))) w' ∧ Below B wr w') := by
        rintro c rfl
        rw [HF.out, ← List.append_assoc]
        exact bWriteByte B b _ (nbyte n j) wr (Or.inr HB.out) hl hsz
      clear HF hl HB
      have : j = 0 ∨ j = 1 ∨ j = 2 ∨ j = 3 := by omega
      rcases this with rfl | rfl | rfl | rfl
      all_goals
        go_wp2_with (go_at_call 30; refine (hc _ (by simp only [nbyte]; omega)).mono ?_; rintro e w2 ⟨rfl, h2, hb2⟩)
        have H2 := hidM h2
        have Hb2 := hidM (HW.out.trans hb2)
        clear h2 hb2 hc
        go_wp2
        exact ⟨⟨_, by omega, by go_num, H2, Hb2⟩, by simp [intOf]⟩
    · have hj9 : j = 4 := by omega
      subst hj9
      go_wp2
      go_end0
      exact ⟨rfl, HB.out, HW.out⟩
end Go.Proofs.Ytnpjldffciociaa
