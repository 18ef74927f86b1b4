import Derived.Test.YtiekijfmafklfaaGreatDoorRefSplit
namespace Go.Proofs.YtiekijfmafklfaaGreatDoor
open Go.RowKit

def isNameL (l : List UInt8) : Bool := allBetween 97 122 l && (decide (1 ≤ l.length) && decide (l.length ≤ 8))

set_option maxRecDepth 10000 in
set_option maxHeartbeats 400000 in
theorem isName_any (s : ByteArray) (w : World) (hs : s.size ≤ maxLen) :
    Calls Tryz.prog 33 #[.string s] w fun e w' => e = .returned (.bool (isNameL s.data.toList)) ∧ w' = w := by
  have hb := between_any s 97 122 w hs (by decide) (by decide)
  go_enter Tryz.func33, Tryz.ntmps33
  cases hc : allBetween 97 122 s.data.toList
  all_goals
    rw [hc] at hb
    go_wp2_with (go_at_call 54; refine hb.mono ?_; rintro e w' ⟨rfl, rfl⟩)
    all_goals
      go_ret
      refine ⟨ret_bool ?_, rfl⟩
      simp [isNameL, hc]
      try (first | omega | (rw [Bool.eq_iff_iff]; simp; omega))

set_option maxRecDepth 10000 in
set_option maxHeartbeats 400000 in
theorem find_any (v : Value) (ts : List (List UInt8 × List Bool)) (name : ByteArray) (w : World) (hv : ReadsTabs Value.bool w v ts) (hl : ts.length ≤ 140737488355328) :
    Calls Tryz.prog 34 #[v, .string name] w fun e w' => e = .returned (.int .i64 (idxOf (findT ts name.data.toList))) ∧ w' = w := by
  obtain ⟨a, cap, rfl, hcell⟩ := hv
  have HCE : Hid (∀ (i : Nat) t, ts[i]? = some t → ∃ b off tv, a = some ⟨b, off, none⟩ ∧ b < w.heap.size ∧ w.cell? ⟨b, off + i * 2, none⟩ = some (.string (bs t.1)) ∧
    w.cell? ⟨b, off + i * 2 + 1, none⟩ = some tv ∧ Reads w tv (t.2.map Value.bool)) := hcell
  clear hcell
  go_enter Tryz.func34, Tryz.ntmps34
  go_wp2
  go_loop [5] (fun i => ∃ (k : Nat), k ≤ ts.length ∧ i = .int .i64 k ∧ findT (ts.take k) name.data.toList = none) (fun i => ts.length - (intOf i).toNat)
  case atStart => exact ⟨0, Nat.zero_le _, rfl, rfl⟩
  case round =>
    obtain ⟨k, hk, rfl, hnone⟩ := hrel
    have HN : Hid (findT (ts.take k) name.data.toList = none) := hnone
    clear hnone
    by_cases hlt : k < ts.length
    · obtain ⟨b, off, tv, rfl, hbl, hc1, hc2, hr⟩ := HCE.out k ts[k] (List.getElem?_eq_getElem hlt)
      go_wp2
      case roundEnd =>
        rename_i hne
        refine ⟨⟨k + 1, by omega, by go_num, findT_step hlt HN.out ?_⟩, by simp [intOf]; omega⟩
        simpa [ByteArray.toList_eq] using hne
      · rename_i heq
        go_ret
        refine ⟨ret_int ?_, rfl⟩
        rw [findT_hit hlt HN.out (by simpa [ByteArray.toList_eq] using (by assumption : ((bs ts[k].fst).toList == name.toList) = true))]
        rfl
    · go_wp2
      go_ret
      exact ⟨ret_int (by rw [List.take_of_length_le (by omega)] at HN; rw [HN.out]; rfl), rfl⟩
end Go.Proofs.YtiekijfmafklfaaGreatDoor
