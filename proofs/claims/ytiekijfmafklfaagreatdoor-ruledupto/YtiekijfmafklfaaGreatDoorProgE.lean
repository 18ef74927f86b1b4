import Derived.Test.YtiekijfmafklfaaGreatDoorProgD
namespace Go.Proofs.YtiekijfmafklfaaGreatDoor
open Go.RowKit

/-- The tables as they are being made. -/
def PTabs (w : World) (base : Nat) (v : Value) (ts : List (List UInt8 × List Bool)) : Prop :=
  ∃ tvs : List Value, tvs.length = ts.length ∧ w.ownsRow base 66 2 v ts.length (flatT ts tvs) ∧
    ∀ (j : Nat) (t : List UInt8 × List Bool) (tv : Value), ts[j]? = some t → tvs[j]? = some tv → w.ownsRow base 83 1 tv t.2.length (t.2.map tcode)

theorem PTabs.below {w w' : World} {base : Nat} {v : Value} {ts : List (List UInt8 × List Bool)} (h : PTabs w base v ts) (hb : Below w.heap.size w w') : PTabs w' base v ts := by
  obtain ⟨tvs, hl, ho, hr⟩ := h
  exact ⟨tvs, hl, owns_below ho hb, fun j t tv h1 h2 => owns_below (hr j t tv h1 h2) hb⟩

theorem PTabs.reads {w : World} {base : Nat} {v : Value} {ts : List (List UInt8 × List Bool)} (h : PTabs w base v ts) : ReadsTabs tcode w v ts := by
  obtain ⟨tvs, hl, ⟨hlen, ho⟩, hr⟩ := h
  rcases ho with ⟨rfl, h0⟩ | ⟨g, cap, cur, rfl, hb1, hh, hn, hm, hs, ht⟩
  · exact ⟨none, 0, by rw [h0], fun i t hi => by rw [List.eq_nil_of_length_eq_zero h0] at hi; simp at hi⟩
  · refine ⟨_, cap, rfl, fun i t hi => ?_⟩
    have hil : i < ts.length := (List.getElem?_eq_some_iff.1 hi).1
    have htv : tvs[i]? = some (tvs[i]'(by omega)) := List.getElem?_eq_getElem _
    have hf := flat_get ts tvs i t _ hi htv
    rw [← ht] at hf
    rw [List.getElem?_take_of_lt (by omega), List.getElem?_take_of_lt (by omega)] at hf
    refine ⟨g, 0, tvs[i]'(by omega), rfl, (Array.getElem?_eq_some_iff.1 hh).1, ?_, ?_, Reads.of_owns (hr i t _ hi htv)⟩
    · rw [Nat.zero_add]; simp only [World.cell?, hh]; simpa using hf.1
    · rw [Nat.zero_add]; simp only [World.cell?, hh]; simpa using hf.2

theorem PTabs.nil (w : World) (base : Nat) : PTabs w base (.slice none 0 0) [] := ⟨[], rfl, World.ownsRow_nil _ _ _ _, fun j t tv h => by simp at h⟩

theorem PTabs.grow2 {w w' : World} {base : Nat} {v v' tv : Value} {ts : List (List UInt8 × List Bool)} {t : List UInt8 × List Bool} {tvs : List Value} (hl : tvs.length = ts.length)
    (hr : w.ownsRow base 66 2 v ts.length (flatT ts tvs)) (hrs : ∀ (j : Nat) (t : List UInt8 × List Bool) (tv : Value), ts[j]? = some t → tvs[j]? = some tv → w.ownsRow base 83 1 tv t.2.length (t.2.map tcode))
    (ht : w.ownsRow base 83 1 tv t.2.length (t.2.map tcode))
    (hg : w.grownBy w' v.ownBlock) (ho : w'.ownsRow base 66 2 v' (ts.length + 1) (flatT ts tvs ++ [.string (bs t.1), tv])) : PTabs w' base v' (ts ++ [t]) := by
  refine ⟨tvs ++ [tv], by simp [hl], ?_, ?_⟩
  · rw [List.length_append, flat_snoc ts tvs hl]
    exact ho
  · intro j t' tv' h1 h2
    by_cases hj : j < ts.length
    · rw [List.getElem?_append_left hj] at h1
      rw [List.getElem?_append_left (by omega)] at h2
      exact (hrs j t' tv' h1 h2).kept hg (owns_apart (hrs j t' tv' h1 h2) hr (by decide))
    · have e1 : j = ts.length := by
        have := (List.getElem?_eq_some_iff.1 h1).1
        simp at this; omega
      subst e1
      rw [List.getElem?_append_right (Nat.le_refl _)] at h1
      rw [List.getElem?_append_right (by omega)] at h2
      simp at h1
      simp [hl] at h2
      subst h1 h2
      exact ht.kept hg (owns_apart ht hr (by decide))

set_option maxRecDepth 10000 in
set_option maxHeartbeats 1000000 in
theorem pFind_any (v : Value) (ts : List (List UInt8 × List Bool)) (name : List UInt8) (w : World) (hv : ReadsTabs tcode w v ts) (hl : ts.length ≤ 1048577) :
    Calls Tryz.prog 25 #[v, .string (bs name)] w fun e w' => e = .returned (.int .i64 (idxOf (findT ts name))) ∧ Below w.heap.size w w' := by
  obtain ⟨a, cap, rfl, hcell⟩ := hv
  have HCE : Hid _ := hcell
  clear hcell
  have hbs := bs_toList2
  go_enter Tryz.func25, Tryz.ntmps25
  go_wp2
  go_loopw [9] (fun i wr => ∃ (k : Nat), k ≤ ts.length ∧ i = .int .i64 k ∧ findT (ts.take k) name = none ∧ Below w.heap.size w wr) (fun i _ => ts.length - (intOf i).toNat)
  case atStart => exact ⟨0, Nat.zero_le _, rfl, rfl, Below.refl _ _⟩
  case round =>
    obtain ⟨k, hk, rfl, hnone, hbel⟩ := hrel
    have HN : Hid _ := hnone
    clear hnone
    by_cases hlt : k < ts.length
    · obtain ⟨b, off, tv, rfl, hbl, hc1, hc2, hr⟩ := HCE.out k ts[k] (List.getElem?_eq_getElem hlt)
      obtain ⟨nm, HNM⟩ : ∃ nm, Hid (ts[k].1 = nm) := exHid _
      rw [HNM.out] at hc1
      obtain ⟨at_, ct, rfl, _⟩ := hr
      rw [← hbel.cell (p := ⟨_, _, none⟩) hbl] at hc1 hc2
      have hsz := hbel.size
      by_cases hnn : nm = name
      · have hh : (nm == name) = true := by simp [hnn]
        have HF : Hid (findT ts name = some k) := Hid.mk (findT_hit hlt HN.out (by rw [HNM.out]; exact hnn))
        clear hnn
        go_wp2
        go_ret
        exact ⟨ret_int (by rw [HF.out]; rfl), hbel.alloc hsz _⟩
      · have hh : (nm == name) = false := by simp [hnn]
        have HF : Hid (findT (ts.take (k + 1)) name = none) := Hid.mk (findT_step hlt HN.out (by rw [HNM.out]; exact hnn))
        clear hnn
        go_wp2
        go_roundw
        case rel => exact ⟨k + 1, by omega, by go_num, HF.out, hbel.alloc hsz _⟩
        case measure => simp [intOf]; omega
    · go_wp2
      go_ret
      exact ⟨ret_int (by rw [List.take_of_length_le (by omega)] at HN; rw [HN.out]; rfl), hbel⟩
end Go.Proofs.YtiekijfmafklfaaGreatDoor
