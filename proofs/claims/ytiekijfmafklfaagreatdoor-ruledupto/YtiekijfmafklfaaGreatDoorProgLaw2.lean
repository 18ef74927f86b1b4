import Derived.Test.YtiekijfmafklfaaGreatDoorProgLaw1
namespace Go.Proofs.YtiekijfmafklfaaGreatDoor
open Go.RowKit

/-- A mask's six cells. -/
structure MRow where
  t : Nat
  c : Nat
  vt : Int
  vn : Int
  vs : ByteArray
  cp : Nat
def MRow.cells (m : MRow) : List Value := [.int .i64 m.t, .int .i64 m.c, .int .i64 m.vt, .int .i64 m.vn, .string m.vs, .pointer (some ⟨m.cp, 0, none⟩)]
def flatM (ms : List MRow) : List Value := ms.flatMap MRow.cells
theorem flatM_length (ms : List MRow) : (flatM ms).length = ms.length * 6 := by
  induction ms with
  | nil => rfl
  | cons m ms ih =>
    have : flatM (m :: ms) = m.cells ++ flatM ms := by simp [flatM]
    rw [this, List.length_append, ih]
    simp [MRow.cells]; omega
theorem flatM_at (ms : List MRow) : ∀ (i : Nat) (h : i < ms.length) (j : Nat), j < 6 → (flatM ms)[i * 6 + j]? = (ms[i].cells)[j]? := by
  induction ms with
  | nil => intro i h; simp at h
  | cons m ms ih =>
    intro i h j hj
    have he : flatM (m :: ms) = m.cells ++ flatM ms := by simp [flatM]
    have hl : m.cells.length = 6 := rfl
    rw [he]
    cases i with
    | zero => rw [List.getElem?_append_left (by rw [hl]; omega)]; simp
    | succ i =>
      rw [List.getElem?_append_right (by rw [hl]; omega), hl]
      have := ih i (by simpa using h) j hj
      rw [show (i + 1) * 6 + j - 6 = i * 6 + j by omega]
      simpa using this
/-- The law, as far as it was read. -/
structure LawAt (w : World) (lb : Nat) (av mv : Value) (na : Nat) (xs : List Value) (ms : List MRow) : Prop where
  blk : w.heap[lb]? = some (.cells #[av, mv] 95 (0, 0))
  arow : w.ownsRow (lb + 1) 161 2 av na xs
  mrow : w.ownsRow (lb + 1) 169 6 mv ms.length (flatM ms)
def hasMask (ms : List MRow) (t c : Nat) : Bool := ms.any fun m => decide (m.t = t) && decide (m.c = c)
theorem hasMask_take {ms : List MRow} {k t c : Nat} (hk : k < ms.length) (h : hasMask (ms.take k) t c = false) (hn : ¬ (ms[k].t = t ∧ ms[k].c = c)) : hasMask (ms.take (k + 1)) t c = false := by
  unfold hasMask at *
  rw [List.take_succ_eq_append_getElem hk, List.any_append, h]
  simp
  intro h1 h2; exact hn ⟨h1, h2⟩
theorem hasMask_hit {ms : List MRow} {k t c : Nat} (hk : k < ms.length) (hn : ms[k].t = t ∧ ms[k].c = c) : hasMask ms t c = true := by
  unfold hasMask
  rw [List.any_eq_true]
  exact ⟨ms[k], List.getElem_mem hk, by simp [hn]⟩

set_option maxRecDepth 10000 in
set_option maxHeartbeats 2000000 in
theorem pmasked (w : World) (lb t c na : Nat) (av mv : Value) (xs : List Value) (ms : List MRow) (h : LawAt w lb av mv na xs ms) (hl : ms.length ≤ 1000) :
    Calls Tryz.prog 91 #[.pointer (some ⟨lb, 0, none⟩), .int .i64 t, .int .i64 c] w fun e w' => e = .returned (.bool (hasMask ms t c)) ∧ Below w.heap.size w w' := by
  obtain ⟨va, vc, rfl, hva⟩ := row_slice h.mrow
  have c1 : w.cell? ⟨lb, 1, none⟩ = some (.slice va ms.length vc) := by rw [Lib.cell_of_heap h.blk]; rfl
  have HM := hidR h
  have HV := hidR hva
  clear h hva
  go_enter Tryz.func91, Tryz.ntmps91
  go_wp2
  go_loopw [14] (fun i wr => ∃ k : Nat, k ≤ ms.length ∧ i = .int .i64 k ∧ Hid (Below w.heap.size w wr) ∧ Hid (hasMask (ms.take k) t c = false)) (fun i _ => ms.length - (intOf i).toNat)
  case atStart => exact ⟨0, by omega, rfl, hidR (Below.refl _ _), hidR rfl⟩
  case round =>
    obtain ⟨k, hk, rfl, HB, HN⟩ := hrel
    have hws := HB.out.size
    by_cases hlt : k < ms.length
    · obtain ⟨g, rfl⟩ := HV.out (by omega)
      have hgl := (HM.out.mrow.lt g rfl).2
      have hcell : ∀ j, j < 6 → wr.cell? ⟨g, k * 6 + j, none⟩ = (ms[k].cells)[j]? := by
        intro j hj
        have hf := flatM_at ms k hlt j hj
        have h6 : j < ms[k].cells.length := hj
        rw [List.getElem?_eq_getElem h6] at hf ⊢
        have := HM.out.mrow.cells (g := g) rfl (k * 6 + j) _ hf
        rw [HB.out.cell (p := ⟨g, k * 6 + j, none⟩) hgl, ← this]
        congr 1
        simp [Addr.add]
      have f0 : wr.cell? ⟨g, k * 6, none⟩ = some (.int .i64 ms[k].t) := hcell 0 (by omega)
      have f1 : wr.cell? ⟨g, k * 6 + 1, none⟩ = some (.int .i64 ms[k].c) := hcell 1 (by omega)
      have f2 : wr.cell? ⟨g, k * 6 + 2, none⟩ = some (.int .i64 ms[k].vt) := hcell 2 (by omega)
      have f3 : wr.cell? ⟨g, k * 6 + 3, none⟩ = some (.int .i64 ms[k].vn) := hcell 3 (by omega)
      have f4 : wr.cell? ⟨g, k * 6 + 4, none⟩ = some (.string ms[k].vs) := hcell 4 (by omega)
      have f5 : wr.cell? ⟨g, k * 6 + 5, none⟩ = some (.pointer (some ⟨ms[k].cp, 0, none⟩)) := hcell 5 (by omega)
      have hgr : g < wr.heap.size := by omega
      clear hcell
      by_cases h1 : ms[k].t = t
      · by_cases h2 : ms[k].c = c
        · have hhit := hidR (hasMask_hit hlt ⟨h1, h2⟩)
          rw [h1] at f0
          rw [h2] at f1
          go_wp2
          go_ret
          exact ⟨ret_bool hhit.out.symm, HB.out.alloc hws _⟩
        · have hnx := hidR (hasMask_take hlt HN.out (fun e => h2 e.2))
          rw [h1] at f0
          go_wp2
          exact ⟨⟨k + 1, by omega, by go_num, hidR (HB.out.alloc hws _), hnx⟩, by simp [intOf]; omega⟩
      · have hnx := hidR (hasMask_take hlt HN.out (fun e => h1 e.1))
        go_wp2
        exact ⟨⟨k + 1, by omega, by go_num, hidR (HB.out.alloc hws _), hnx⟩, by simp [intOf]; omega⟩
    · have hkk : k = ms.length := by omega
      subst hkk
      go_wp2
      go_ret
      exact ⟨ret_bool (by rw [← HN.out, List.take_length]), HB.out⟩
end Go.Proofs.YtiekijfmafklfaaGreatDoor
