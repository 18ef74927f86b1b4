import Derived.Test.YtnpjldffciociaaFrG
import Derived.Test.YtnpjldffciociaaFrKit2
namespace Go.Proofs.Ytnpjldffciociaa
open Go.RowKit

/-- The block that keeps the lists. -/
abbrev HBk (w : World) (hb : Nat) (n : Int) (tv : Value) : Prop := w.heap[hb]? = some (.cells #[.int .i64 n, tv] 25 (0, 0))
theorem grown_below {w w' w'' : World} {row : Option Nat} (h : w.grownBy w' row) (hb : Below w'.heap.size w' w'') : w.grownBy w'' row :=
  ⟨hb.os.trans h.os, hb.tape.trans h.tape, hb.output.trans h.output, Nat.le_trans h.size hb.size, fun k hk hne => (hb.block k (Nat.lt_of_lt_of_le hk h.size)).trans (h.block k hk hne)⟩
theorem HBk.below {w w' : World} {hb : Nat} {n : Int} {tv : Value} (h : HBk w hb n tv) (hb' : Below w.heap.size w w') : HBk w' hb n tv :=
  (hb'.block hb (Array.getElem?_eq_some_iff.1 h).1).trans h
theorem HBk.cell {w : World} {hb : Nat} {n : Int} {tv : Value} (h : HBk w hb n tv) : w.cell? ⟨hb, 0, none⟩ = some (.int .i64 n) ∧ w.cell? ⟨hb, 1, none⟩ = some tv ∧ (∀ j, w.frozen? ⟨hb, j, none⟩ = false) ∧ hb < w.heap.size :=
  ⟨by rw [Lib.cell_of_heap h]; rfl, by rw [Lib.cell_of_heap h]; rfl, Lib.frozen_of_heap h, (Array.getElem?_eq_some_iff.1 h).1⟩
theorem HBk.set0 {w : World} {hb : Nat} {n : Int} {tv : Value} (h : HBk w hb n tv) (k : Int) : HBk (w.setCell ⟨hb, 0, none⟩ (.int .i64 k)) hb k tv := by
  unfold HBk; simp [World.setCell, Array.getElem?_modify, h]
theorem HBk.set1 {w : World} {hb : Nat} {n : Int} {tv : Value} (h : HBk w hb n tv) (u : Value) : HBk (w.setCell ⟨hb, 1, none⟩ u) hb n u := by
  unfold HBk; simp [World.setCell, Array.getElem?_modify, h]
theorem grown_set (w : World) (hb i : Nat) (u : Value) : w.grownBy (w.setCell ⟨hb, i, none⟩ u) (some hb) :=
  ⟨rfl, rfl, rfl, by simp [World.setCell], fun k _ hk => Below.heap_setCell _ _ _ _ (fun e => hk (by simp [e]))⟩

theorem one_cell (w : World) (d : UInt8) : ∀ j (hj : j < [d].length), (w.alloc (.cells #[.int .u8 (d.toNat : Int)] 5)).cell? ((⟨w.heap.size, 0, none⟩ : Addr).add j) = some (.int .u8 ([d][j].toNat : Int)) := by
  intro j hj
  have : j = 0 := by simpa using hj
  subst this
  simp [Addr.add]

set_option maxRecDepth 10000 in
set_option maxHeartbeats 1000000 in
theorem lmark (hb n : Nat) (tv : Value) (w : World) (h : HBk w hb n tv) (hn : n ≤ 1000) :
    Calls Try.prog 19 #[.pointer (some ⟨hb, 0, none⟩)] w fun e w' => ∃ m : List UInt8, e = .returned (.string (bs m)) ∧ w.grownBy w' (some hb) ∧ HBk w' hb ((n : Int) + 1) tv := by
  obtain ⟨h0, h1, h2, h3⟩ := h.cell
  have h2' := h2 0
  have HN := hidM (h.set0 ((n : Int) + 1))
  have HG := hidM (grown_set w hb 0 (.int .i64 ((n : Int) + 1)))
  have hc0 : (w.setCell ⟨hb, 0, none⟩ (.int .i64 ((n : Int) + 1))).cell? ⟨hb, 0, none⟩ = some (.int .i64 ((n : Int) + 1)) := World.cell?_setCell_same _ _ _ h0
  clear h h2 h1
  go_enter Try.func19, Try.ntmps19
  go_wp2
  obtain ⟨w1, hw1⟩ : ∃ w1, w1 = w.setCell ⟨hb, 0, none⟩ (.int .i64 ((n : Int) + 1)) := ⟨_, rfl⟩
  rw [← hw1] at HN HG ⊢
  clear hc0 hw1 h0 h2'
  go_loopw [3, 4] (fun s i wr => ∃ (q : Nat) (m : List UInt8), i = .int .i64 q ∧ s = .string (bs m) ∧ m.length + q ≤ 1100 ∧ Hid (Below w1.heap.size w1 wr)) (fun _ i _ => (intOf i).toNat)
  case atStart => exact ⟨n + 1, [35], by simp, rfl, by simp; omega, hidM (Below.refl _ _)⟩
  case round =>
    obtain ⟨q, m, rfl, rfl, hq, HB⟩ := hrel
    by_cases h0 : 0 < q
    · obtain ⟨d, hd⟩ : ∃ d : UInt8, d.toNat = 48 + q % 10 := ⟨UInt8.ofNat (48 + q % 10), by rw [ofNat_toNat]; omega⟩
      have hcv : (convert 43 9 (.slice (some ⟨wr.heap.size, 0, none⟩) 1 1)).run Try.prog (wr.alloc (.cells #[.int .u8 (48 + (q : Int) % 10)] 5)) = .ok (.string (bs [d])) (wr.alloc (.cells #[.int .u8 (48 + (q : Int) % 10)] 5)) := by
        have h := run_convert_bytes_back (P := Try.prog) (wr.alloc (.cells #[.int .u8 (d.toNat : Int)] 5)) 43 9 5 ⟨wr.heap.size, 0, none⟩ 1 [d] Try.underlying43 Try.underlying5 Try.underlying9 (one_cell wr d)
        have e : ((d.toNat : Nat) : Int) = 48 + (q : Int) % 10 := by rw [hd]; simp
        rw [e] at h
        exact h
      have hws := HB.out.size
      clear hd
      go_wp2
      refine ⟨⟨q / 10, m ++ [d], by go_num, by rw [bs_append], by simp; omega, hidM (HB.out.alloc hws _)⟩, by simp [intOf]; omega⟩
    · go_wp2
      go_ret
      exact ⟨m, rfl, grown_below HG.out HB.out, HN.out.below HB.out⟩
end Go.Proofs.Ytnpjldffciociaa
