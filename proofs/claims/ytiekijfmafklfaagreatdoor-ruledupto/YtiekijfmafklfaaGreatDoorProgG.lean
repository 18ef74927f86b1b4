import Derived.Test.YtiekijfmafklfaaGreatDoorProgF
namespace Go.Proofs.YtiekijfmafklfaaGreatDoor
open Go.RowKit

/-- THE PROGRAM's ReadSchema: the tables of the document's schema, or an error of number 1. -/
theorem readSchema_any (s : ByteArray) (w : World) (hs : s.size ≤ 1048576) (hg : Glob w) :
    Calls Tryz.prog 12 #[.string s] w fun e w' => SchemaAns w' (schemaP s.data.toList) e ∧ Below w.heap.size w w' := by
  have hl2 : s.data.toList.length ≤ 1048576 := by simpa using hs
  have hc := fun w => pcount_any s 59 w
  have hlen := spl_length 59 s.data.toList
  have hle := spl_length_le 59 s.data.toList
  have hmem := spl_mem_length 59 s.data.toList
  have hsp := psplit_any s 59 w (by omega) hg
  by_cases h6 : 6 ≤ s.data.toList.count 59
  · have e : schemaP s.data.toList = none := by
      unfold schemaP
      split
      · rfl
      · rename_i ts hts
        have := go_len _ _ _ hts
        simp at this
        rw [if_neg (by omega)]
    rw [e]
    exact rs_many s w _ h6 (by omega) hc
  · have e : schemaP s.data.toList = schemaGo [] (spl 59 s.data.toList) := by
      unfold schemaP
      split
      · rename_i h; exact h.symm
      · rename_i ts hts
        have := go_len _ _ _ hts
        simp at this
        rw [if_pos (by omega), hts]
    rw [e]
    exact rs_go s w _ _ (by omega) hlen hg (fun p hp => Nat.le_trans (hmem p hp) hl2) hc hsp
end Go.Proofs.YtiekijfmafklfaaGreatDoor
