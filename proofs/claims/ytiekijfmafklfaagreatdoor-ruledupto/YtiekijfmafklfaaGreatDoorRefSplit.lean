import Derived.Test.YtiekijfmafklfaaGreatDoorRefA
import Derived.Test.YtiekijfmafklfaaGreatDoorKit
namespace Go.Proofs.YtiekijfmafklfaaGreatDoor
open Go.RowKit

theorem Tryz.infoStr : (Tryz.prog.info? 9).map (fun i => (i.zero, i.size, i.bytes)) = some (some (.string ByteArray.empty), 1, 16) := by kernel_rfl

/-- One round more that cuts. -/
theorem spl_step (c : UInt8) (l : List UInt8) (from_ k : Nat) (g : List (List UInt8)) (hf : from_ ≤ k) (hk : k < l.length)
    (hg : spl c l = g ++ spl c (l.drop from_)) (hno : c ∉ (l.take k).drop from_) (he : l[k] = c) :
    spl c l = (g ++ [(l.take k).drop from_]) ++ spl c (l.drop (k + 1)) := by
  rw [hg, List.append_assoc]
  congr 1
  have e : l.drop from_ = (l.take k).drop from_ ++ c :: l.drop (k + 1) := by
    have e1 : l = l.take k ++ c :: l.drop (k + 1) := by
      rw [← he, ← List.drop_eq_getElem_cons hk, List.take_append_drop]
    have e2 : l.drop from_ = (l.take k ++ c :: l.drop (k + 1)).drop from_ := by rw [← e1]
    rw [e2, List.drop_append_of_le_length (by simp; omega)]
  rw [e, spl_cut _ _ _ hno]; rfl
theorem spl_last (c : UInt8) (l : List UInt8) (from_ : Nat) (g : List (List UInt8)) (hg : spl c l = g ++ spl c (l.drop from_)) (hno : c ∉ (l.take l.length).drop from_) :
    spl c l = g ++ [(l.take l.length).drop from_] := by
  rw [List.take_length] at *
  rw [hg, spl_none _ _ hno]
theorem no_step (c : UInt8) (l : List UInt8) (from_ k : Nat) (hf : from_ ≤ k) (hk : k < l.length) (hno : c ∉ (l.take k).drop from_) (he : l[k] ≠ c) : c ∉ (l.take (k + 1)).drop from_ := by
  rw [List.take_succ_eq_append_getElem hk, List.drop_append_of_le_length (by simp; omega)]
  intro h
  rcases List.mem_append.1 h with h | h
  · exact hno h
  · simp at h; exact he h.symm
theorem g_len (c : UInt8) (l : List UInt8) (r : List (List UInt8)) (g : List (List UInt8)) (hg : spl c l = g ++ r) : g.length ≤ l.length + 1 := by
  have := spl_length_le c l
  rw [hg] at this; simp at this; omega

set_option maxRecDepth 10000 in
set_option maxHeartbeats 1000000 in
theorem split_any (s : ByteArray) (c : UInt8) (w : World) (hs : s.size * 64 ≤ 140737488351232) :
    Calls Tryz.prog 32 #[.string s, .int .u8 c.toNat] w fun e w' => ∃ v, e = .returned v ∧
      w'.ownsRow w.heap.size 9 1 v (spl c s.data.toList).length ((spl c s.data.toList).map fun l => Value.string (bs l)) ∧ Below w.heap.size w w' := by
  obtain ⟨i0, hi, hz0, hz1, hz2⟩ := info_parts Tryz.infoStr
  go_enter Tryz.func32, Tryz.ntmps32
  go_wp2
  go_loopw [5, 6, 7] (fun v f i wr => ∃ (k from_ : Nat) (g : List (List UInt8)), k ≤ s.size + 1 ∧ i = .int .i64 k ∧ f = .int .i64 from_ ∧ from_ ≤ s.size + 1 ∧
      wr.ownsRow w.heap.size 9 1 v g.length (g.map fun l => Value.string (bs l)) ∧ Below w.heap.size w wr ∧
      (k ≤ s.size → from_ ≤ k ∧ spl c s.data.toList = g ++ spl c (s.data.toList.drop from_) ∧ c ∉ (s.data.toList.take k).drop from_) ∧
      (k = s.size + 1 → spl c s.data.toList = g))
    (fun _ _ i _ => s.size + 1 - (intOf i).toNat)
  case atStart => exact ⟨0, 0, [], by omega, rfl, rfl, by omega, World.ownsRow_nil _ _ _ _, Below.refl _ _, fun _ => ⟨Nat.le_refl _, by simp, by simp⟩, fun h => by omega⟩
  case round =>
    obtain ⟨k, from_, g, hk, rfl, rfl, hfs, hown, hbel, hin, hout⟩ := hrel
    have HI : Hid (k ≤ s.size → from_ ≤ k ∧ spl c s.data.toList = g ++ spl c (s.data.toList.drop from_) ∧ c ∉ (s.data.toList.take k).drop from_) := hin
    have HO : Hid (k = s.size + 1 → spl c s.data.toList = g) := hout
    clear hin hout
    rcases Nat.lt_trichotomy k s.size with hlt | heq | hgt
    · obtain ⟨hfk, hg, hno⟩ := HI.out (by omega)
      have hgl := g_len _ _ _ _ hg
      have hgl2 : g.length ≤ s.size + 1 := by simpa using hgl
      have HG : Hid (spl c s.data.toList = g ++ spl c (s.data.toList.drop from_)) := hg
      have HN : Hid (c ∉ (s.data.toList.take k).drop from_) := hno
      clear hg hno hgl
      by_cases hc : s[k] = c
      · have HC : Hid (s[k] = c) := hc
        have hct : ((s[k].toNat : Int) == (c.toNat : Int)) = true := by simp [hc]
        clear hc
        go_wp2_with (at_builtin; refine append_one rfl _ _ 55 rfl w.heap.size 9 i0 (.string ByteArray.empty) 16 Tryz.underlying55 hi hz0 hz1 hz2 rfl _ _ _ rfl hown (.string (s.extract from_ k)) rfl rfl (by unfold maxLen; omega) (by omega) hbel.size ?_; intro v' w1 hown' hb1 _)
        go_roundw
        case rel =>
          have hcs := spl_step c s.data.toList from_ k g hfk (by simpa using hlt) HG.out HN.out HC.out
          refine ⟨k + 1, k + 1, g ++ [(s.data.toList.take k).drop from_], by omega, by go_num, by go_num, by omega, ?_, hbel.trans hb1, fun _ => ⟨Nat.le_refl _, hcs, ?_⟩, fun h => by omega⟩
          · rw [List.length_append, List.map_append, ← extract_toList]; exact hown'
          · simp
        case measure => simp [intOf]; omega
      · have hct : ((s[k].toNat : Int) == (c.toNat : Int)) = false := by
          simp; intro h; exact hc (UInt8.toNat_inj.1 (by omega))
        have HC : Hid (s[k] ≠ c) := hc
        clear hc
        go_wp2
        go_roundw
        case rel =>
          exact ⟨k + 1, from_, g, by omega, by go_num, rfl, by omega, hown, hbel, fun _ => ⟨by omega, HG.out, no_step c _ from_ k hfk (by simpa using hlt) HN.out HC.out⟩, fun h => by omega⟩
        case measure => simp [intOf]; omega
    · obtain ⟨hfk, hg, hno⟩ := HI.out (by omega)
      have hgl := g_len _ _ _ _ hg
      have hgl2 : g.length ≤ s.size + 1 := by simpa using hgl
      have HG : Hid (spl c s.data.toList = g ++ spl c (s.data.toList.drop from_)) := hg
      have HN : Hid (c ∉ (s.data.toList.take k).drop from_) := hno
      clear hg hno hgl
      subst heq
      go_wp2_with (at_builtin; refine append_one rfl _ _ 55 rfl w.heap.size 9 i0 (.string ByteArray.empty) 16 Tryz.underlying55 hi hz0 hz1 hz2 rfl _ _ _ rfl hown (.string (s.extract from_ s.size)) rfl rfl (by unfold maxLen; omega) (by omega) hbel.size ?_; intro v' w1 hown' hb1 _)
      go_roundw
      case rel =>
        have hcs := spl_last c s.data.toList from_ g HG.out (by simpa using HN.out)
        refine ⟨s.size + 1, s.size + 1, g ++ [(s.data.toList.take s.size).drop from_], by omega, by go_num, by go_num, by omega, ?_, hbel.trans hb1, fun h => by omega, fun _ => by simpa using hcs⟩
        rw [List.length_append, List.map_append, ← extract_toList]; exact hown'
      case measure => simp [intOf]
    · go_wp2
      go_ret
      exact ⟨_, rfl, by rw [HO.out (by omega)]; exact hown, hbel⟩
end Go.Proofs.YtiekijfmafklfaaGreatDoor
