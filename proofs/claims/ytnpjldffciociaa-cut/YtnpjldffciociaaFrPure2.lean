import Derived.Test.YtnpjldffciociaaFrPure
namespace Go.Proofs.Ytnpjldffciociaa

/-- A payload that may come in. -/
def Fits (p : List UInt8) : Prop := 1 ≤ p.length ∧ p.length ≤ 1000
theorem packL_eq {p : List UInt8} (h : Fits p) : packL p = fourL p.length ++ (p ++ fourL (crcL p)) := by
  unfold packL; rw [Nat.mod_eq_of_lt (by have := h.2; omega), List.append_assoc]
theorem numL_pack {p : List UInt8} (h : Fits p) (r : List UInt8) : numL (packL p ++ r) = p.length := by
  rw [packL_eq h, List.append_assoc]; exact numL_four _ _ (by have := h.2; omega)
theorem drop4_pack {p : List UInt8} (h : Fits p) (r : List UInt8) : (packL p ++ r).drop 4 = p ++ (fourL (crcL p) ++ r) := by
  rw [packL_eq h, List.append_assoc, ← fourL_length p.length, List.drop_left]; simp
theorem fstL_pack {p : List UInt8} (h : Fits p) (r : List UInt8) : fstL (packL p ++ r) = some (some p.length) := by
  have hl : (packL p ++ r).length = p.length + 8 + r.length := by simp [packL_length]
  have hn := numL_pack h r
  unfold fstL
  rw [hn, hl, if_neg (by omega), if_neg (by have := h.1; have := h.2; omega), if_neg (by omega), ← List.drop_drop, drop4_pack h, List.drop_left, List.take_left, numL_four _ _ (crcL_lt p), if_pos rfl]
theorem cutL_pack {p : List UInt8} (h : Fits p) (r : List UInt8) : cutL (packL p ++ r) = (p :: (cutL r).1, p.length + 8 + (cutL r).2.1, (cutL r).2.2) := by
  rw [cutL_whole (fstL_pack h r), drop4_pack h, List.take_left]
  have : (packL p ++ r).drop (p.length + 8) = r := by rw [← packL_length p, List.drop_left]
  rw [this]
def packsL (ps : List (List UInt8)) : List UInt8 := (ps.map packL).flatten
theorem packsL_snoc (ps : List (List UInt8)) (p : List UInt8) : packsL (ps ++ [p]) = packsL ps ++ packL p := by simp [packsL]
theorem packsL_append (ps qs : List (List UInt8)) : packsL (ps ++ qs) = packsL ps ++ packsL qs := by simp [packsL]
theorem packsL_cons (p : List UInt8) (ps : List (List UInt8)) : packsL (p :: ps) = packL p ++ packsL ps := by simp [packsL]
theorem cutL_packs : ∀ (ps : List (List UInt8)) (r : List UInt8), (∀ p ∈ ps, Fits p) → cutL (packsL ps ++ r) = (ps ++ (cutL r).1, (packsL ps).length + (cutL r).2.1, (cutL r).2.2) := by
  intro ps
  induction ps with
  | nil => intro r _; simp [packsL]
  | cons p ps ih =>
    intro r h
    rw [packsL_cons, List.append_assoc, cutL_pack (h p (by simp)), ih r (fun q hq => h q (by simp [hq]))]
    simp [packL_length]; omega
/-- A front of a frame. -/
theorem fstL_part {p : List UInt8} (h : Fits p) (j : Nat) (hj : j < p.length + 8) : fstL ((packL p).take j) = none := by
  have hl : ((packL p).take j).length = j := by simp [packL_length]; omega
  unfold fstL
  rw [hl]
  by_cases h4 : j < 4
  · rw [if_pos h4]
  · have hn : numL ((packL p).take j) = p.length := by
      have h1 : (packL p).take j = fourL p.length ++ (p ++ fourL (crcL p)).take (j - 4) := by
        rw [packL_eq h, List.take_append, fourL_length, List.take_of_length_le (by rw [fourL_length]; omega)]
      rw [h1]; exact numL_four _ _ (by have := h.2; omega)
    rw [if_neg h4, hn, if_neg (by have := h.1; have := h.2; omega), if_pos (by omega)]
theorem cutL_nil : cutL [] = ([], 0, false) := cutL_front (by simp [fstL])
theorem cutL_part {p : List UInt8} (h : Fits p) (j : Nat) (hj : j < p.length + 8) : cutL ((packL p).take j) = ([], 0, false) := cutL_front (fstL_part h j hj)
/-- One byte turned, behind the four of the length. -/
theorem fstL_turned {p : List UInt8} (h : Fits p) (r : List UInt8) (j : Nat) (hj : j < p.length + 4) (d : UInt8)
    (hd : (p ++ fourL (crcL p))[j]? ≠ some d) : fstL (fourL p.length ++ ((p ++ fourL (crcL p)).set j d ++ r)) = some none := by
  have hn : numL (fourL p.length ++ ((p ++ fourL (crcL p)).set j d ++ r)) = p.length := numL_four _ _ (by have := h.2; omega)
  have hl : (fourL p.length ++ ((p ++ fourL (crcL p)).set j d ++ r)).length = p.length + 8 + r.length := by simp [fourL_length]; omega
  have hdrop : (fourL p.length ++ ((p ++ fourL (crcL p)).set j d ++ r)).drop 4 = (p ++ fourL (crcL p)).set j d ++ r := by
    rw [← fourL_length p.length, List.drop_left]
  unfold fstL
  rw [hn, hl, if_neg (by omega), if_neg (by have := h.1; have := h.2; omega), if_neg (by omega), ← List.drop_drop, hdrop]
  refine if_neg ?_
  by_cases hp : j < p.length
  · rw [List.set_append_left _ _ hp, List.append_assoc]
    have hsl : (p.set j d).length = p.length := by simp
    rw [show List.take p.length (p.set j d ++ (fourL (crcL p) ++ r)) = p.set j d by rw [← hsl, List.take_left],
      show List.drop p.length (p.set j d ++ (fourL (crcL p) ++ r)) = fourL (crcL p) ++ r by rw [← hsl, List.drop_left], numL_four _ _ (crcL_lt p)]
    rw [List.getElem?_append_left hp, List.getElem?_eq_getElem hp] at hd
    have hne : p[j] ≠ d := fun e => hd (by rw [e])
    have h1 : p = p.take j ++ p[j] :: p.drop (j + 1) := by simp
    have h2 : p.set j d = p.take j ++ d :: p.drop (j + 1) := by rw [List.set_eq_take_append_cons_drop, if_pos hp]
    intro e
    rw [h2] at e
    have := crcL_turned (p.take j) (p.drop (j + 1)) p[j] d hne
    rw [← h1] at this
    exact this e
  · rw [List.set_append_right _ _ (by omega), List.append_assoc, List.take_left, List.drop_left]
    have hf : j - p.length < 4 := by omega
    rw [List.getElem?_append_right (by omega)] at hd
    intro e
    have h5 : fourL (numL ((fourL (crcL p)).set (j - p.length) d ++ r)) = (fourL (crcL p)).set (j - p.length) d := by
      rw [fourL_num (by simp [fourL_length]), List.take_append_of_le_length (by simp [fourL_length]), List.take_of_length_le (by simp [fourL_length])]
    rw [e] at h5
    apply hd
    rw [h5, List.getElem?_set_self (by rw [fourL_length]; exact hf)]
theorem cutL_turned {p : List UInt8} (h : Fits p) (r : List UInt8) (j : Nat) (hj : j < p.length + 4) (d : UInt8)
    (hd : (p ++ fourL (crcL p))[j]? ≠ some d) : cutL (fourL p.length ++ ((p ++ fourL (crcL p)).set j d ++ r)) = ([], 0, true) := cutL_broken (fstL_turned h r j hj d hd)
end Go.Proofs.Ytnpjldffciociaa
