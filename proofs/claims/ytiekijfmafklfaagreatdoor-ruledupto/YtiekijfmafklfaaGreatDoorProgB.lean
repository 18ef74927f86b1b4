import Derived.Test.YtiekijfmafklfaaGreatDoorProgErr2
import Derived.Test.YtiekijfmafklfaaGreatDoorProgA
import Derived.Test.YtiekijfmafklfaaGreatDoorShelf
namespace Go.Proofs.YtiekijfmafklfaaGreatDoor
open Go.RowKit Go.Lib

theorem splitB_spl (c : UInt8) : ∀ (k : Nat) (s : ByteArray), countB s ⟨#[c]⟩ = k → splitB ⟨#[c]⟩ 0 k s = (spl c s.data.toList).map bs := by
  intro k
  induction k with
  | zero =>
    intro s h
    have hc : s.data.toList.count c = 0 := by
      have : countB s ⟨#[c]⟩ = s.data.toList.count c := count_one c s.data.toList
      omega
    rw [spl_none c _ (List.count_eq_zero.1 hc)]
    rfl
  | succ k ih =>
    intro s h
    have hcn : s.data.toList.count c = k + 1 := by
      have : countB s ⟨#[c]⟩ = s.data.toList.count c := count_one c s.data.toList
      omega
    have hi : indexB s ⟨#[c]⟩ = indexByte s.data.toList c := index_one s.data.toList c
    have hge := indexByte_ge s.data.toList c
    by_cases hm : indexByte s.data.toList c = -1
    · exfalso
      have hmem : c ∈ s.data.toList := List.count_pos_iff.1 (by omega)
      obtain ⟨j, hj⟩ := List.mem_iff_getElem?.1 hmem
      exact indexByte_none hm j hj
    · obtain ⟨o, ho⟩ : ∃ o : Nat, indexByte s.data.toList c = o := ⟨(indexByte s.data.toList c).toNat, by omega⟩
      rw [splitB_hit _ _ _ _ o (hi.trans ho)]
      have hs := indexByte_some ho
      have hol : o < s.data.toList.length := (List.getElem?_eq_some_iff.1 hs.1).1
      have hno : c ∉ s.data.toList.take o := by
        intro hmem
        obtain ⟨j, hj⟩ := List.mem_iff_getElem?.1 hmem
        have hjl := (List.getElem?_eq_some_iff.1 hj).1
        rw [List.length_take] at hjl
        rw [List.getElem?_take_of_lt (by omega)] at hj
        exact hs.2 j (by omega) hj
      have hpost : (s.extract (o + 1) s.size).data.toList = s.data.toList.drop (o + 1) := by
        rw [extract_toList, List.take_of_length_le (by simp)]
      have e : s.data.toList = s.data.toList.take o ++ c :: s.data.toList.drop (o + 1) := by
        have h2 : s.data.toList[o] = c := by
          have := (List.getElem?_eq_some_iff.1 hs.1).2
          exact this
        rw [← h2, ← List.drop_eq_getElem_cons hol, List.take_append_drop]
      have hcnt : countB (s.extract (o + 1) s.size) ⟨#[c]⟩ = k := by
        have h1 := countB_hit s ⟨#[c]⟩ o (Nat.le_refl 1) (hi.trans ho)
        have h2 : countB (s.extract (o + 1) s.size) ⟨#[c]⟩ = countB (s.extract (o + (⟨#[c]⟩ : ByteArray).size) s.size) ⟨#[c]⟩ := rfl
        omega
      have h3 := ih _ hcnt
      rw [hpost] at h3
      show s.extract 0 (o + 0) :: splitB ⟨#[c]⟩ 0 k (s.extract (o + 1) s.size) = _
      rw [h3]
      have e2 : spl c s.data.toList = s.data.toList.take o :: spl c (s.data.toList.drop (o + 1)) := by
        have := spl_cut c (s.data.toList.take o) (s.data.toList.drop (o + 1)) hno
        rw [← e] at this
        exact this
      rw [e2, List.map_cons]
      congr 1
      have : (s.extract 0 (o + 0)).data.toList = s.data.toList.take o := by rw [extract_toList]; simp
      rw [← this]; rfl

/-- strings.Split at one byte. -/
theorem psplit_any (s : ByteArray) (c : UInt8) (w : World) (hs : s.size ≤ 1048577) (hg : Glob w) :
    Calls Tryz.prog 23 #[.string s, .string ⟨#[c]⟩] w fun e w' => e = .returned (.slice (some ⟨w.heap.size, 0, none⟩) (spl c s.data.toList).length (spl c s.data.toList).length) ∧
      w' = w.alloc (.cells ((spl c s.data.toList).map fun l => Value.string (bs l)).toArray 9) := by
  obtain ⟨_, ⟨m, hm⟩, _⟩ := hg
  have h := Tryz.strings_Split s ⟨#[c]⟩ m w (by omega) hm (Nat.le_refl 1)
  rw [splitB_spl c _ s rfl] at h
  have hl : countB s ⟨#[c]⟩ + 1 = (spl c s.data.toList).length := by
    have : countB s ⟨#[c]⟩ = s.data.toList.count c := count_one c s.data.toList
    rw [spl_length]; omega
  rw [hl, List.map_map] at h
  exact h

/-- strings.Count at one byte. -/
theorem pcount_any (s : ByteArray) (c : UInt8) (w : World) :
    Calls Tryz.prog 21 #[.string s, .string ⟨#[c]⟩] w fun e w' => e = .returned (.int .i64 (s.data.toList.count c : Nat)) ∧ w' = w := Tryz.strings_Count_one s c w

set_option maxRecDepth 10000 in
set_option maxHeartbeats 400000 in
theorem schemaFault_any (s : ByteArray) (w : World) : Calls Tryz.prog 22 #[.string s] w fun e w' => e = .returned (.iface 73 (.pointer (some ⟨w.heap.size, 0, none⟩))) ∧ w' = w.alloc (.cells #[.int .i64 1, .string s] 77) := by
  go_enter Tryz.func22, Tryz.ntmps22
  go_wp2
  go_ret
  exact ⟨rfl, rfl⟩

/-- A new fault is an error. -/
theorem Err.new (w : World) (n : Int) (s : ByteArray) : Err (w.alloc (.cells #[.int .i64 n, .string s] 77)) n (.iface 73 (.pointer (some ⟨w.heap.size, 0, none⟩))) :=
  ⟨w.heap.size, 0, .fault (by simp) (by simp)⟩
/-- An error that is wrapped is one. -/
theorem Err.wrap {w : World} {n : Int} {e : Value} (h : Err w n e) (p : ByteArray) (k : Int) : Err (w.alloc (.cells #[.string p, .int .i64 k, e] 72)) n (.iface 70 (.pointer (some ⟨w.heap.size, 0, none⟩))) := by
  obtain ⟨b, d, h⟩ := h.kept ((Below.refl _ _).alloc (Nat.le_refl _) (.cells #[.string p, .int .i64 k, e] 72))
  exact ⟨b, d + 1, .place d w.heap.size e (by simp) (by simp) h⟩
theorem Err.wrap' {w : World} {n : Int} {e : Value} (h : Err w n e) (p : ByteArray) (k : Int) (m : Nat) (hm : m = w.heap.size) : Err (w.alloc (.cells #[.string p, .int .i64 k, e] 72)) n (.iface 70 (.pointer (some ⟨m, 0, none⟩))) := by
  subst hm; exact h.wrap p k
theorem Err.newWrap (w : World) (n : Int) (s p : ByteArray) (k : Int) : Err ((w.alloc (.cells #[.int .i64 n, .string s] 77)).alloc (.cells #[.string p, .int .i64 k, .iface 73 (.pointer (some ⟨w.heap.size, 0, none⟩))] 72)) n (.iface 70 (.pointer (some ⟨w.heap.size + 1, 0, none⟩))) :=
  (Err.new w n s).wrap' p k _ (by simp)
end Go.Proofs.YtiekijfmafklfaaGreatDoor
