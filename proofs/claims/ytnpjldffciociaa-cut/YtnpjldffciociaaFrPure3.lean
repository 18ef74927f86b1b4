import Derived.Test.YtnpjldffciociaaFrPure2
namespace Go.Proofs.Ytnpjldffciociaa

/-- Where the first i frames end. -/
def endAt (cs : List (List UInt8)) (i : Nat) : Nat := (packsL (cs.take i)).length
theorem endAt_zero (cs : List (List UInt8)) : endAt cs 0 = 0 := by simp [endAt, packsL]
theorem endAt_succ (cs : List (List UInt8)) (i : Nat) (h : i < cs.length) : endAt cs (i + 1) = endAt cs i + cs[i].length + 8 := by
  unfold endAt
  rw [List.take_succ_eq_append_getElem h, packsL_snoc, List.length_append, packL_length]; omega
theorem endAt_all (cs : List (List UInt8)) : endAt cs cs.length = (packsL cs).length := by unfold endAt; rw [List.take_length]
theorem endAt_le (cs : List (List UInt8)) (i : Nat) : endAt cs i ≤ (packsL cs).length := by
  unfold endAt
  conv => rhs; rw [← List.take_append_drop i cs, packsL_append]
  simp
theorem endAt_take (cs : List (List UInt8)) (i k : Nat) (h : i ≤ k) : endAt (cs.take k) i = endAt cs i := by
  unfold endAt; rw [List.take_take, Nat.min_eq_left h]
theorem packs_split (cs : List (List UInt8)) (k : Nat) (h : k < cs.length) : packsL cs = packsL (cs.take k) ++ (packL cs[k] ++ packsL (cs.drop (k + 1))) := by
  conv => lhs; rw [← List.take_append_drop k cs, packsL_append, List.drop_eq_getElem_cons h, packsL_cons]
theorem cut_front (cs : List (List UInt8)) (hf : ∀ p ∈ cs, Fits p) (w at' : Nat) (hw : w ≤ cs.length) (h1 : endAt cs w ≤ at') (h3 : w < cs.length → at' < endAt cs (w + 1)) :
    cutL ((packsL cs).take at') = (cs.take w, endAt cs w, false) := by
  have hsub : ∀ p ∈ cs.take w, Fits p := fun p hp => hf p (List.mem_of_mem_take hp)
  by_cases hlt : w < cs.length
  · have h4 := h3 hlt
    rw [endAt_succ cs w hlt] at h4
    have hFw : Fits cs[w] := hf _ (List.getElem_mem hlt)
    rw [packs_split cs w hlt, List.take_append, List.take_of_length_le (by exact h1), cutL_packs _ _ hsub]
    rw [List.take_append_of_le_length (by rw [packL_length]; unfold endAt at h1 h4; omega)]
    rw [cutL_part hFw _ (by unfold endAt at h1 h4; omega)]
    simp [endAt]
  · have he : w = cs.length := by omega
    subst he
    rw [List.take_of_length_le (by rw [← endAt_all]; exact h1)]
    have := cutL_packs cs [] hf
    rw [List.append_nil, cutL_nil] at this
    rw [this]
    simp [endAt_all]
theorem cut_turned (cs : List (List UInt8)) (hf : ∀ p ∈ cs, Fits p) (k j : Nat) (hk : k < cs.length) (hj : j < cs[k].length + 4) (d : UInt8)
    (hd : (packsL cs)[endAt cs k + 4 + j]? ≠ some d) : cutL ((packsL cs).set (endAt cs k + 4 + j) d) = (cs.take k, endAt cs k, true) := by
  have hsub : ∀ p ∈ cs.take k, Fits p := fun p hp => hf p (List.mem_of_mem_take hp)
  have hFk : Fits cs[k] := hf _ (List.getElem_mem hk)
  have hlA : (packsL (cs.take k)).length = endAt cs k := rfl
  rw [packs_split cs k hk, packL_eq hFk, List.append_assoc] at hd ⊢
  rw [List.getElem?_append_right (by omega), hlA, List.getElem?_append_right (by rw [fourL_length]; omega), fourL_length,
    List.getElem?_append_left (by simp [fourL_length]; omega)] at hd
  have hsubj : endAt cs k + 4 + j - endAt cs k - 4 = j := by omega
  rw [hsubj] at hd
  rw [List.set_append_right _ _ (by omega), hlA, List.set_append_right _ _ (by rw [fourL_length]; omega), fourL_length, hsubj,
    List.set_append_left _ _ (by simp [fourL_length]; omega), cutL_packs _ _ hsub, cutL_turned hFk _ j hj d hd]
  simp [endAt]
def clipL (p : List UInt8) : List UInt8 := if p.length < 1 then [120] else if 1000 < p.length then p.take 1000 else p
theorem clipL_fits (p : List UInt8) : Fits (clipL p) := by
  unfold clipL Fits
  split
  · simp
  · split
    · simp; omega
    · omega
theorem clipL_le (p : List UInt8) : (clipL p).length ≤ 1000 := (clipL_fits p).2
theorem packs_le (cs : List (List UInt8)) (h : ∀ p ∈ cs, Fits p) : (packsL cs).length ≤ 1008 * cs.length := by
  induction cs with
  | nil => simp [packsL]
  | cons c cs ih =>
    have h1 := ih (fun p hp => h p (by simp [hp]))
    have h2 := (h c (by simp)).2
    rw [packsL_cons, List.length_append, packL_length, List.length_cons]; omega
end Go.Proofs.Ytnpjldffciociaa
