import Derived.Test.YtnpjldffciociaaGreatDoorB11
import Derived.Test.YtnpjldffciociaaGreatDoorB09
import Derived.Test.YtnpjldffciociaaGreatDoorShelf
import Derived.Test.YtnpjldffciociaaGreatDoorB13
namespace Go.Proofs.YtnpjldffciociaaGreatDoor
open Go.RowKit Go.Lib

theorem splitB_spl (c : UInt8) : ∀ (k : Nat) (s : ByteArray), countB s ⟨#[c]⟩ = k → splitB ⟨#[c]⟩ 0 k s = (spl c s.data.toList).map bs := by
  intro k
  induction k with
  | zero =>
    intro s h
    have hc : s.data.toList.count c = 0 := by
      have : countB s ⟨#[c]⟩ = s.data.toList.count c := count_one c s.data.toList
      omega
    rw [spl_none c _ (List.count_eq_zero.1 hc)]
    rfl
  | succ k ih =>
    intro s h
    have hcn : s.data.toList.count c = k + 1 := by
      have : countB s ⟨#[c]⟩ = s.data.toList.count c := count_one c s.data.toList
      omega
    have hi : indexB s ⟨#[c]⟩ = indexByte s.data.toList c := index_one s.data.toList c
    have hge := indexByte_ge s.data.toList c
    by_cases hm : indexByte s.data.toList c = -1
    · exfalso
      have hmem : c ∈ s.data.toList := List.count_pos_iff.1 (by omega)
      obtain ⟨j, hj⟩ := List.mem_iff_getElem?.1 hmem
      exact indexByte_none hm j hj
    · obtain ⟨o, ho⟩ : ∃ o : Nat, indexByte s.data.toList c = o := ⟨(indexByte s.data.toList c).toNat, by omega⟩
      rw [splitB_hit _ _ _ _ o (hi.trans ho)]
      have hs := indexByte_some ho
      have hol : o < s.data.toList.length := (List.getElem?_eq_some_iff.1 hs.1).1
      have hno : c ∉ s.data.toList.take o := by
        intro hmem
        obtain ⟨j, hj⟩ := List.mem_iff_getElem?.1 hmem
        have hjl := (List.getElem?_eq_some_iff.1 hj).1
        rw [List.length_take] at hjl
        rw [List.getElem?_take_of_lt (by omega)] at hj
        exact hs.2 j (by omega) hj
      have hpost : (s.extract (o + 1) s.size).data.toList = s.data.toList.drop (o + 1) := by
        rw [extract_toList, List.take_of_length_le (by simp)]
      have e : s.data.toList = s.data.toList.take o ++ c :: s.data.toList.drop (o + 1) := by
        have h2 : s.data.toList[o] = c := by
          have := (List.getElem?_eq_some_iff.1 hs.1).2
          exact this
        rw [← h2, ← List.drop_eq_getElem_cons hol, List.take_append_drop]
      have hcnt : countB (s.extract (o + 1) s.size) ⟨#[c]⟩ = k := by
        have h1 := countB_hit s ⟨#[c]⟩ o (Nat.le_refl 1) (hi.trans ho)
        have h2 : countB (s.extract (o + 1) s.size) ⟨#[c]⟩ = countB (s.extract (o + (⟨#[c]⟩ : ByteArray).size) s.size) ⟨#[c]⟩ := rfl
        omega
      have h3 := ih _ hcnt
      rw [hpost] at h3
      show s.extract 0 (o + 0) :: splitB ⟨#[c]⟩ 0 k (s.extract (o + 1) s.size) = _
      rw [h3]
      have e2 : spl c s.data.toList = s.data.toList.take o :: spl c (s.data.toList.drop (o + 1)) := by
        have := spl_cut c (s.data.toList.take o) (s.data.toList.drop (o + 1)) hno
        rw [← e] at this
        exact this
      rw [e2, List.map_cons]
      congr 1
      have : (s.extract 0 (o + 0)).data.toList = s.data.toList.take o := by rw [extract_toList]; simp
      rw [← this]; rfl

/-- strings.Split at one byte. -/
theorem psplit_any (s : ByteArray) (c : UInt8) (w : World) (hs : s.size ≤ 1048577) (hg : Glob w) :
    Calls Tryz.prog 94 #[.string s, .string ⟨#[c]⟩] w fun e w' => e = .returned (.slice (some ⟨w.heap.size, 0, none⟩) (spl c s.data.toList).length (spl c s.data.toList).length) ∧
      w' = w.alloc (.cells ((spl c s.data.toList).map fun l => Value.string (bs l)).toArray 9) := by
  obtain ⟨_, ⟨m, hm⟩, _⟩ := hg
  have h := Tryz.strings_Split s ⟨#[c]⟩ m w (by omega) hm (Nat.le_refl 1)
  rw [splitB_spl c _ s rfl] at h
  have hl : countB s ⟨#[c]⟩ + 1 = (spl c s.data.toList).length := by
    have : countB s ⟨#[c]⟩ = s.data.toList.count c := count_one c s.data.toList
    rw [spl_length]; omega
  rw [hl, List.map_map] at h
  exact h

/-- strings.Count at one byte. -/
theorem pcount_any (s : ByteArray) (c : UInt8) (w : World) :
    Calls Tryz.prog 92 #[.string s, .string ⟨#[c]⟩] w fun e w' => e = .returned (.int .i64 (s.data.toList.count c : Nat)) ∧ w' = w := Tryz.strings_Count_one s c w

set_option maxRecDepth 10000 in
set_option maxHeartbeats 400000 in
theorem schemaFault_any (s : ByteArray) (w : World) : Calls Tryz.prog 93 #[.string s] w fun e w' => e = .returned (.iface 175 (.pointer (some ⟨w.heap.size, 0, none⟩))) ∧ w' = w.alloc (.cells #[.int .i64 1, .string s] 179) := by
  go_enter Tryz.func93, Tryz.ntmps93
  go_wp2
  go_ret
  exact ⟨rfl, rfl⟩

/-- A new fault is an error. -/
theorem Err.new (w : World) (n : Int) (s : ByteArray) : Err (w.alloc (.cells #[.int .i64 n, .string s] 179)) n (.iface 175 (.pointer (some ⟨w.heap.size, 0, none⟩))) :=
  ⟨w.heap.size, 0, .fault (by simp) (by simp)⟩
/-- An error that is wrapped is one. -/
theorem Err.wrap {w : World} {n : Int} {e : Value} (h : Err w n e) (p : ByteArray) (k : Int) : Err (w.alloc (.cells #[.string p, .int .i64 k, e] 174)) n (.iface 172 (.pointer (some ⟨w.heap.size, 0, none⟩))) := by
  obtain ⟨b, d, h⟩ := h.kept ((Below.refl _ _).alloc (Nat.le_refl _) (.cells #[.string p, .int .i64 k, e] 174))
  exact ⟨b, d + 1, .place d w.heap.size e (by simp) (by simp) h⟩
theorem Err.wrap' {w : World} {n : Int} {e : Value} (h : Err w n e) (p : ByteArray) (k : Int) (m : Nat) (hm : m = w.heap.size) : Err (w.alloc (.cells #[.string p, .int .i64 k, e] 174)) n (.iface 172 (.pointer (some ⟨m, 0, none⟩))) := by
  subst hm; exact h.wrap p k
theorem Err.newWrap (w : World) (n : Int) (s p : ByteArray) (k : Int) : Err ((w.alloc (.cells #[.int .i64 n, .string s] 179)).alloc (.cells #[.string p, .int .i64 k, .iface 175 (.pointer (some ⟨w.heap.size, 0, none⟩))] 174)) n (.iface 172 (.pointer (some ⟨w.heap.size + 1, 0, none⟩))) :=
  (Err.new w n s).wrap' p k _ (by simp)
end Go.Proofs.YtnpjldffciociaaGreatDoor
namespace Go.Proofs.YtnpjldffciociaaGreatDoor
open Go.RowKit

theorem Tryz.infoType : (Tryz.prog.info? 185).map (fun i => (i.zero, i.size, i.bytes)) = some (some (.int .i64 0), 1, 8) := by kernel_rfl

/-- A type's word as the program keeps it. -/
abbrev tyv (t : List UInt8) : Value := tcode (t == sText)

theorem take_set_step {α : Type} (R : List α) (k : Nat) (u : α) (hk : k < R.length) (T : List α) (h : R.take k = T) : (R.set k u).take (k + 1) = T ++ [u] := by
  have hl : T.length = k := by rw [← h, List.length_take]; omega
  rw [List.set_eq_take_append_cons_drop, if_pos hk, h]
  rw [show k + 1 = T.length + 1 by omega, List.take_length_add_append]
  rfl
theorem isType_form {x : List UInt8} (h : isType x = true) : x = (if (x == sText) then wText' else wInt') := by
  have : x = sInt ∨ x = sText := by simpa [isType] using h
  rcases this with rfl | rfl <;> rfl

set_option maxRecDepth 10000 in
set_option maxHeartbeats 1000000 in
theorem readTypes_nil (a : Option Addr) (cap : Nat) (w : World) :
    Calls Tryz.prog 146 #[.slice a 0 cap] w fun e w' => (∃ v ev, e = .returned (.tuple #[v, ev]) ∧ (∃ a n c, v = .slice a n c) ∧ Err w' 1 ev) ∧ Below w.heap.size w w' := by
  go_enter Tryz.func146, Tryz.ntmps146
  go_wp2_with (go_at_call 93; refine (schemaFault_any _ _).mono ?_; rintro e w' ⟨rfl, rfl⟩)
  go_ret2
  exact ⟨⟨_, _, rfl, ⟨_, _, _, rfl⟩, Err.new _ _ _⟩, by go_grown⟩

set_option maxRecDepth 10000 in
set_option maxHeartbeats 4000000 in
theorem readTypes_any (bw offw cap : Nat) (tys : List (List UInt8)) (w : World) (hp : 1 ≤ tys.length) (hl : tys.length ≤ 1048577) (hb : bw < w.heap.size) (hcells : ∀ j, j < tys.length → w.cell? ⟨bw, offw + j, none⟩ = some (.string (bs (tys.getD j [])))) :
    Calls Tryz.prog 146 #[.slice (some ⟨bw, offw, none⟩) tys.length cap] w fun e w' =>
      (∃ v ev, e = .returned (.tuple #[v, ev]) ∧ (∃ a n c, v = .slice a n c) ∧ (tys.all isType = true → ev = .nilIface ∧ w'.ownsRow w.heap.size 185 1 v tys.length (tys.map tyv)) ∧ (tys.all isType = false → Err w' 1 ev)) ∧ Below w.heap.size w w' := by
  obtain ⟨i0, hi0, hz0, hz1, hz2⟩ := info_parts Tryz.infoType
  have HC : Hid _ := hcells
  clear hcells
  have hbs := bs_toList2
  go_enter Tryz.func146, Tryz.ntmps146
  go_wp2_with (at_make; refine wpList_make_full _ rfl _ _ 111 rfl w.heap.size 185 i0 _ 1 Tryz.underlying111 hi0 hz0 hz1 _ _ _ _ tys.length rfl rfl rfl rfl (by rw [hz2]; omega) (by unfold maxLen; omega) (Nat.le_refl _) ?_; intro w1 hown1 hgrow1)
  have hb1 : Below w.heap.size w w1 := (Below.refl _ _).grown hgrow1 (Nat.le_refl _) (by intro k hk; cases hk)
  have hlt1 : w.heap.size < w1.heap.size := by
    obtain ⟨_, ⟨h, _⟩ | ⟨g, cap, cur, h, hb, hh, _⟩⟩ := hown1
    · cases h
    · simp at h
      obtain ⟨rfl, _⟩ := h
      exact (Array.getElem?_eq_some_iff.1 hh).1
  clear hgrow1
  go_loopw [18] (fun i wr => ∃ (k : Nat) (R : List Value), k ≤ tys.length ∧ i = .int .i64 k ∧ R.length = tys.length ∧ R.take k = (tys.take k).map tyv ∧ (tys.take k).all isType = true ∧ wr.ownsRow w.heap.size 185 1 (.slice (some ⟨w.heap.size, 0, none⟩) tys.length tys.length) tys.length R ∧ Below w.heap.size w wr) (fun i _ => tys.length - (intOf i).toNat)
  case atStart =>
    refine ⟨0, _, Nat.zero_le _, rfl, ?_, rfl, rfl, hown1, hb1⟩
    have := hown1.1
    simpa using this
  case round =>
    obtain ⟨k, R, hk, rfl, hRl, hRt, hall, hown, hbel⟩ := hrel
    have HR : Hid _ := hRt
    have HA : Hid _ := hall
    have HRl : Hid _ := hRl
    clear hRt hall hRl hown1
    by_cases hlt : k < tys.length
    · obtain ⟨x, HX⟩ : ∃ x, Hid (tys[k] = x) := exHid _
      have hcx : wr.cell? ⟨bw, offw + k, none⟩ = some (.string (bs x)) := by
        rw [hbel.cell (p := ⟨bw, offw + k, none⟩) hb, HC.out k hlt, ← HX.out]
        simp [List.getD, hlt]
      by_cases hxt : isType x = true
      · have hrt := readType_yes (x == sText) wr
        rw [← isType_form hxt] at hrt
        have hst := hown.stored k (tyv x)
        have hfz := hown.frozenAt k
        have hce := hown.cellAt k (by omega)
        have hRk : R[k]? = some (R[k]'(by rw [HRl.out]; exact hlt)) := List.getElem?_eq_getElem _
        rw [hRk] at hce
        have HS : Hid _ := hst.1
        have hsz := hbel.size
        clear hst hown hRk
        generalize R[k]'(by rw [HRl.out]; exact hlt) = old at hce
        go_wp2_with (go_at_call 194; refine hrt.mono ?_; rintro e w' ⟨rfl, hw⟩; obtain rfl := hw.symm)
        go_roundw
        case rel =>
          refine ⟨k + 1, R.set k (tyv x), by omega, by go_num, by simp [HRl.out], ?_, ?_, HS.out, hbel.setCell (by simp) _⟩
          · rw [take_set_step R k _ (by rw [HRl.out]; exact hlt) _ HR.out, List.take_succ_eq_append_getElem hlt, List.map_append, HX.out]
            rfl
          · rw [List.take_succ_eq_append_getElem hlt, HX.out, List.all_append, HA.out]; simp [hxt]
        case measure => simp [intOf]; omega
      · have hxi : (x == sInt) = false ∧ (x == sText) = false := by simpa [isType] using hxt
        obtain ⟨hx1, hx2⟩ := hxi
        have hrt := readType_no x wr hx1 hx2
        have hbad : Hid (tys.all isType = false) := Hid.mk (by
          rw [List.all_eq_false]
          exact ⟨tys[k], List.getElem_mem hlt, by rw [HX.out]; simpa using hxt⟩)
        have hsz := hbel.size
        clear hxt hown
        go_wp2_with (first
          | (go_at_call 194; refine hrt.mono ?_; rintro e w' ⟨rfl, hw⟩; obtain rfl := hw.symm)
          | (go_at_call 93; refine (schemaFault_any _ _).mono ?_; rintro e w' ⟨rfl, rfl⟩))
        go_ret2
        refine ⟨⟨_, _, rfl, ⟨_, _, _, rfl⟩, fun h => ?_, fun _ => Err.newWrap _ _ _ _ _⟩, (hbel.alloc hsz _).alloc (by simp; omega) _⟩
        rw [hbad.out] at h; cases h
    · have hall2 : tys.all isType = true := by
        have := HA.out
        rwa [List.take_of_length_le (by omega)] at this
      have hR2 : R = tys.map tyv := by
        have := HR.out
        rwa [List.take_of_length_le (by rw [HRl.out]; omega), List.take_of_length_le (by omega)] at this
      subst hR2
      have HO : Hid _ := hown
      have HA2 : Hid _ := hall2
      clear hown hall2
      go_wp2
      go_ret2
      refine ⟨⟨_, _, rfl, ⟨_, _, _, rfl⟩, fun _ => ⟨rfl, HO.out⟩, fun h => ?_⟩, hbel⟩
      rw [HA2.out] at h; cases h
end Go.Proofs.YtnpjldffciociaaGreatDoor
