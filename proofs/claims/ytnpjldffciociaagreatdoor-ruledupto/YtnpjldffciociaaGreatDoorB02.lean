import Derived.Test.YtnpjldffciociaaGreatDoorB01
namespace Go.Proofs.YtnpjldffciociaaGreatDoor
open Go.RowKit

theorem take_snoc (s : ByteArray) (k : Nat) (h : k < s.size) : s.data.toList.take (k + 1) = s.data.toList.take k ++ [s[k]] := by
  rw [List.take_succ_eq_append_getElem (by simpa using h)]; rfl

/-- Are all bytes from a to b? -/
def allBetween (a b : Nat) (l : List UInt8) : Bool := l.all fun c => decide (a ≤ c.toNat) && decide (c.toNat ≤ b)

theorem allBetween_snoc (a b : Nat) (l : List UInt8) (c : UInt8) : allBetween a b (l ++ [c]) = (allBetween a b l && (decide (a ≤ c.toNat) && decide (c.toNat ≤ b))) := by
  simp [allBetween]

theorem allBetween_bad (a b : Nat) (s : ByteArray) (k : Nat) (h : k < s.size) (hb : ¬ (a ≤ s[k].toNat ∧ s[k].toNat ≤ b)) : allBetween a b s.data.toList = false := by
  unfold allBetween
  rw [List.all_eq_false]
  refine ⟨s[k], ?_, by simpa [Decidable.not_and_iff_or_not] using hb⟩
  exact List.mem_iff_getElem.2 ⟨k, by simpa using h, rfl⟩


set_option maxHeartbeats 400000 in
theorem between_any (s : ByteArray) (a b : Nat) (w : World) (hs : s.size ≤ maxLen) (_ha : a ≤ 255) (_hb : b ≤ 255) :
    Calls Tryz.prog 153 #[.string s, .int .u8 a, .int .u8 b] w fun e w' => e = .returned (.bool (allBetween a b s.data.toList)) ∧ w' = w := by
  unfold maxLen at hs
  go_enter Tryz.func153, Tryz.ntmps153
  go_wp2
  go_loop [7] (fun i => ∃ k : Nat, k ≤ s.size ∧ i = .int .i64 k ∧ allBetween a b (s.data.toList.take k) = true) (fun i => s.size - (intOf i).toNat)
  case atStart => exact ⟨0, Nat.zero_le _, rfl, rfl⟩
  case round =>
    obtain ⟨k, hk, rfl, hall⟩ := hrel
    have HA : Hid (allBetween a b (s.data.toList.take k) = true) := hall
    clear hall
    by_cases hlt : k < s.size
    · have HS := allBetween_snoc a b (s.data.toList.take k) s[k]
      rw [← take_snoc s k hlt] at HS
      have HS' : Hid (allBetween a b (s.data.toList.take (k + 1)) = (allBetween a b (s.data.toList.take k) && (decide (a ≤ s[k].toNat) && decide (s[k].toNat ≤ b)))) := HS
      clear HS
      go_wp2
      case roundEnd =>
        refine ⟨⟨k + 1, by omega, by go_num, ?_⟩, by simp [intOf]; omega⟩
        rw [HS'.out, HA.out]
        simp; omega
      all_goals
        go_ret
        exact ⟨ret_bool (allBetween_bad a b s k hlt (by omega)).symm, rfl⟩
    · go_wp2
      go_ret
      exact ⟨ret_bool (by rw [← HA.out, List.take_of_length_le (by simp; omega)]), rfl⟩
end Go.Proofs.YtnpjldffciociaaGreatDoor
namespace Go.Proofs.YtnpjldffciociaaGreatDoor
open Go.RowKit

theorem Tryz.infoStr : (Tryz.prog.info? 9).map (fun i => (i.zero, i.size, i.bytes)) = some (some (.string ByteArray.empty), 1, 16) := by kernel_rfl

/-- One round more that cuts. -/
theorem spl_step (c : UInt8) (l : List UInt8) (from_ k : Nat) (g : List (List UInt8)) (hf : from_ ≤ k) (hk : k < l.length)
    (hg : spl c l = g ++ spl c (l.drop from_)) (hno : c ∉ (l.take k).drop from_) (he : l[k] = c) :
    spl c l = (g ++ [(l.take k).drop from_]) ++ spl c (l.drop (k + 1)) := by
  rw [hg, List.append_assoc]
  congr 1
  have e : l.drop from_ = (l.take k).drop from_ ++ c :: l.drop (k + 1) := by
    have e1 : l = l.take k ++ c :: l.drop (k + 1) := by
      rw [← he, ← List.drop_eq_getElem_cons hk, List.take_append_drop]
    have e2 : l.drop from_ = (l.take k ++ c :: l.drop (k + 1)).drop from_ := by rw [← e1]
    rw [e2, List.drop_append_of_le_length (by simp; omega)]
  rw [e, spl_cut _ _ _ hno]; rfl
theorem spl_last (c : UInt8) (l : List UInt8) (from_ : Nat) (g : List (List UInt8)) (hg : spl c l = g ++ spl c (l.drop from_)) (hno : c ∉ (l.take l.length).drop from_) :
    spl c l = g ++ [(l.take l.length).drop from_] := by
  rw [List.take_length] at *
  rw [hg, spl_none _ _ hno]
theorem no_step (c : UInt8) (l : List UInt8) (from_ k : Nat) (hf : from_ ≤ k) (hk : k < l.length) (hno : c ∉ (l.take k).drop from_) (he : l[k] ≠ c) : c ∉ (l.take (k + 1)).drop from_ := by
  rw [List.take_succ_eq_append_getElem hk, List.drop_append_of_le_length (by simp; omega)]
  intro h
  rcases List.mem_append.1 h with h | h
  · exact hno h
  · simp at h; exact he h.symm
theorem g_len (c : UInt8) (l : List UInt8) (r : List (List UInt8)) (g : List (List UInt8)) (hg : spl c l = g ++ r) : g.length ≤ l.length + 1 := by
  have := spl_length_le c l
  rw [hg] at this; simp at this; omega

set_option maxRecDepth 10000 in
set_option maxHeartbeats 1000000 in
theorem split_any (s : ByteArray) (c : UInt8) (w : World) (hs : s.size * 64 ≤ 140737488351232) :
    Calls Tryz.prog 103 #[.string s, .int .u8 c.toNat] w fun e w' => ∃ v, e = .returned v ∧
      w'.ownsRow w.heap.size 9 1 v (spl c s.data.toList).length ((spl c s.data.toList).map fun l => Value.string (bs l)) ∧ Below w.heap.size w w' := by
  obtain ⟨i0, hi, hz0, hz1, hz2⟩ := info_parts Tryz.infoStr
  go_enter Tryz.func103, Tryz.ntmps103
  go_wp2
  go_loopw [5, 6, 7] (fun v f i wr => ∃ (k from_ : Nat) (g : List (List UInt8)), k ≤ s.size + 1 ∧ i = .int .i64 k ∧ f = .int .i64 from_ ∧ from_ ≤ s.size + 1 ∧
      wr.ownsRow w.heap.size 9 1 v g.length (g.map fun l => Value.string (bs l)) ∧ Below w.heap.size w wr ∧
      (k ≤ s.size → from_ ≤ k ∧ spl c s.data.toList = g ++ spl c (s.data.toList.drop from_) ∧ c ∉ (s.data.toList.take k).drop from_) ∧
      (k = s.size + 1 → spl c s.data.toList = g))
    (fun _ _ i _ => s.size + 1 - (intOf i).toNat)
  case atStart => exact ⟨0, 0, [], by omega, rfl, rfl, by omega, World.ownsRow_nil _ _ _ _, Below.refl _ _, fun _ => ⟨Nat.le_refl _, by simp, by simp⟩, fun h => by omega⟩
  case round =>
    obtain ⟨k, from_, g, hk, rfl, rfl, hfs, hown, hbel, hin, hout⟩ := hrel
    have HI : Hid (k ≤ s.size → from_ ≤ k ∧ spl c s.data.toList = g ++ spl c (s.data.toList.drop from_) ∧ c ∉ (s.data.toList.take k).drop from_) := hin
    have HO : Hid (k = s.size + 1 → spl c s.data.toList = g) := hout
    clear hin hout
    rcases Nat.lt_trichotomy k s.size with hlt | heq | hgt
    · obtain ⟨hfk, hg, hno⟩ := HI.out (by omega)
      have hgl := g_len _ _ _ _ hg
      have hgl2 : g.length ≤ s.size + 1 := by simpa using hgl
      have HG : Hid (spl c s.data.toList = g ++ spl c (s.data.toList.drop from_)) := hg
      have HN : Hid (c ∉ (s.data.toList.take k).drop from_) := hno
      clear hg hno hgl
      by_cases hc : s[k] = c
      · have HC : Hid (s[k] = c) := hc
        have hct : ((s[k].toNat : Int) == (c.toNat : Int)) = true := by simp [hc]
        clear hc
        go_wp2_with (at_builtin; refine append_one rfl _ _ 26 rfl w.heap.size 9 i0 (.string ByteArray.empty) 16 Tryz.underlying26 hi hz0 hz1 hz2 rfl _ _ _ rfl hown (.string (s.extract from_ k)) rfl rfl (by unfold maxLen; omega) (by omega) hbel.size ?_; intro v' w1 hown' hb1 _)
        go_roundw
        case rel =>
          have hcs := spl_step c s.data.toList from_ k g hfk (by simpa using hlt) HG.out HN.out HC.out
          refine ⟨k + 1, k + 1, g ++ [(s.data.toList.take k).drop from_], by omega, by go_num, by go_num, by omega, ?_, hbel.trans hb1, fun _ => ⟨Nat.le_refl _, hcs, ?_⟩, fun h => by omega⟩
          · rw [List.length_append, List.map_append, ← extract_toList]; exact hown'
          · simp
        case measure => simp [intOf]; omega
      · have hct : ((s[k].toNat : Int) == (c.toNat : Int)) = false := by
          simp; intro h; exact hc (UInt8.toNat_inj.1 (by omega))
        have HC : Hid (s[k] ≠ c) := hc
        clear hc
        go_wp2
        go_roundw
        case rel =>
          exact ⟨k + 1, from_, g, by omega, by go_num, rfl, by omega, hown, hbel, fun _ => ⟨by omega, HG.out, no_step c _ from_ k hfk (by simpa using hlt) HN.out HC.out⟩, fun h => by omega⟩
        case measure => simp [intOf]; omega
    · obtain ⟨hfk, hg, hno⟩ := HI.out (by omega)
      have hgl := g_len _ _ _ _ hg
      have hgl2 : g.length ≤ s.size + 1 := by simpa using hgl
      have HG : Hid (spl c s.data.toList = g ++ spl c (s.data.toList.drop from_)) := hg
      have HN : Hid (c ∉ (s.data.toList.take k).drop from_) := hno
      clear hg hno hgl
      subst heq
      go_wp2_with (at_builtin; refine append_one rfl _ _ 26 rfl w.heap.size 9 i0 (.string ByteArray.empty) 16 Tryz.underlying26 hi hz0 hz1 hz2 rfl _ _ _ rfl hown (.string (s.extract from_ s.size)) rfl rfl (by unfold maxLen; omega) (by omega) hbel.size ?_; intro v' w1 hown' hb1 _)
      go_roundw
      case rel =>
        have hcs := spl_last c s.data.toList from_ g HG.out (by simpa using HN.out)
        refine ⟨s.size + 1, s.size + 1, g ++ [(s.data.toList.take s.size).drop from_], by omega, by go_num, by go_num, by omega, ?_, hbel.trans hb1, fun h => by omega, fun _ => by simpa using hcs⟩
        rw [List.length_append, List.map_append, ← extract_toList]; exact hown'
      case measure => simp [intOf]
    · go_wp2
      go_ret
      exact ⟨_, rfl, by rw [HO.out (by omega)]; exact hown, hbel⟩
end Go.Proofs.YtnpjldffciociaaGreatDoor
namespace Go.Proofs.YtnpjldffciociaaGreatDoor
open Go.RowKit

def isNameL (l : List UInt8) : Bool := allBetween 97 122 l && (decide (1 ≤ l.length) && decide (l.length ≤ 8))

set_option maxRecDepth 10000 in
set_option maxHeartbeats 400000 in
theorem isName_any (s : ByteArray) (w : World) (hs : s.size ≤ maxLen) :
    Calls Tryz.prog 104 #[.string s] w fun e w' => e = .returned (.bool (isNameL s.data.toList)) ∧ w' = w := by
  have hb := between_any s 97 122 w hs (by decide) (by decide)
  go_enter Tryz.func104, Tryz.ntmps104
  cases hc : allBetween 97 122 s.data.toList
  all_goals
    rw [hc] at hb
    go_wp2_with (go_at_call 153; refine hb.mono ?_; rintro e w' ⟨rfl, rfl⟩)
    all_goals
      go_ret
      refine ⟨ret_bool ?_, rfl⟩
      simp [isNameL, hc]
      try (first | omega | (rw [Bool.eq_iff_iff]; simp; omega))

set_option maxRecDepth 10000 in
set_option maxHeartbeats 400000 in
theorem find_any (v : Value) (ts : List (List UInt8 × List Bool)) (name : ByteArray) (w : World) (hv : ReadsTabs Value.bool w v ts) (hl : ts.length ≤ 140737488355328) :
    Calls Tryz.prog 105 #[v, .string name] w fun e w' => e = .returned (.int .i64 (idxOf (findT ts name.data.toList))) ∧ w' = w := by
  obtain ⟨a, cap, rfl, hcell⟩ := hv
  have HCE : Hid (∀ (i : Nat) t, ts[i]? = some t → ∃ b off tv, a = some ⟨b, off, none⟩ ∧ b < w.heap.size ∧ w.cell? ⟨b, off + i * 2, none⟩ = some (.string (bs t.1)) ∧
    w.cell? ⟨b, off + i * 2 + 1, none⟩ = some tv ∧ Reads w tv (t.2.map Value.bool)) := hcell
  clear hcell
  go_enter Tryz.func105, Tryz.ntmps105
  go_wp2
  go_loop [5] (fun i => ∃ (k : Nat), k ≤ ts.length ∧ i = .int .i64 k ∧ findT (ts.take k) name.data.toList = none) (fun i => ts.length - (intOf i).toNat)
  case atStart => exact ⟨0, Nat.zero_le _, rfl, rfl⟩
  case round =>
    obtain ⟨k, hk, rfl, hnone⟩ := hrel
    have HN : Hid (findT (ts.take k) name.data.toList = none) := hnone
    clear hnone
    by_cases hlt : k < ts.length
    · obtain ⟨b, off, tv, rfl, hbl, hc1, hc2, hr⟩ := HCE.out k ts[k] (List.getElem?_eq_getElem hlt)
      go_wp2
      case roundEnd =>
        rename_i hne
        refine ⟨⟨k + 1, by omega, by go_num, findT_step hlt HN.out ?_⟩, by simp [intOf]; omega⟩
        simpa [ByteArray.toList_eq] using hne
      · rename_i heq
        go_ret
        refine ⟨ret_int ?_, rfl⟩
        rw [findT_hit hlt HN.out (by simpa [ByteArray.toList_eq] using (by assumption : ((bs ts[k].fst).toList == name.toList) = true))]
        rfl
    · go_wp2
      go_ret
      exact ⟨ret_int (by rw [List.take_of_length_le (by omega)] at HN; rw [HN.out]; rfl), rfl⟩
end Go.Proofs.YtnpjldffciociaaGreatDoor
