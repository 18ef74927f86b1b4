import Derived.Test.YtiekijfmafklfaaGreatDoorProgB
import Derived.Test.YtiekijfmafklfaaGreatDoorRefP
namespace Go.Proofs.YtiekijfmafklfaaGreatDoor
open Go.RowKit

theorem Tryz.infoType : (Tryz.prog.info? 83).map (fun i => (i.zero, i.size, i.bytes)) = some (some (.int .i64 0), 1, 8) := by kernel_rfl

/-- A type's word as the program keeps it. -/
abbrev tyv (t : List UInt8) : Value := tcode (t == sText)

theorem take_set_step {α : Type} (R : List α) (k : Nat) (u : α) (hk : k < R.length) (T : List α) (h : R.take k = T) : (R.set k u).take (k + 1) = T ++ [u] := by
  have hl : T.length = k := by rw [← h, List.length_take]; omega
  rw [List.set_eq_take_append_cons_drop, if_pos hk, h]
  rw [show k + 1 = T.length + 1 by omega, List.take_length_add_append]
  rfl
theorem isType_form {x : List UInt8} (h : isType x = true) : x = (if (x == sText) then wText' else wInt') := by
  have : x = sInt ∨ x = sText := by simpa [isType] using h
  rcases this with rfl | rfl <;> rfl

set_option maxRecDepth 10000 in
set_option maxHeartbeats 1000000 in
theorem readTypes_nil (a : Option Addr) (cap : Nat) (w : World) :
    Calls Tryz.prog 44 #[.slice a 0 cap] w fun e w' => (∃ v ev, e = .returned (.tuple #[v, ev]) ∧ (∃ a n c, v = .slice a n c) ∧ Err w' 1 ev) ∧ Below w.heap.size w w' := by
  go_enter Tryz.func44, Tryz.ntmps44
  go_wp2_with (go_at_call 22; refine (schemaFault_any _ _).mono ?_; rintro e w' ⟨rfl, rfl⟩)
  go_ret2
  exact ⟨⟨_, _, rfl, ⟨_, _, _, rfl⟩, Err.new _ _ _⟩, by go_grown⟩

set_option maxRecDepth 10000 in
set_option maxHeartbeats 4000000 in
theorem readTypes_any (bw offw cap : Nat) (tys : List (List UInt8)) (w : World) (hp : 1 ≤ tys.length) (hl : tys.length ≤ 1048577) (hb : bw < w.heap.size) (hcells : ∀ j, j < tys.length → w.cell? ⟨bw, offw + j, none⟩ = some (.string (bs (tys.getD j [])))) :
    Calls Tryz.prog 44 #[.slice (some ⟨bw, offw, none⟩) tys.length cap] w fun e w' =>
      (∃ v ev, e = .returned (.tuple #[v, ev]) ∧ (∃ a n c, v = .slice a n c) ∧ (tys.all isType = true → ev = .nilIface ∧ w'.ownsRow w.heap.size 83 1 v tys.length (tys.map tyv)) ∧ (tys.all isType = false → Err w' 1 ev)) ∧ Below w.heap.size w w' := by
  obtain ⟨i0, hi0, hz0, hz1, hz2⟩ := info_parts Tryz.infoType
  have HC : Hid _ := hcells
  clear hcells
  have hbs := bs_toList2
  go_enter Tryz.func44, Tryz.ntmps44
  go_wp2_with (at_make; refine wpList_make_full _ rfl _ _ 46 rfl w.heap.size 83 i0 _ 1 Tryz.underlying46 hi0 hz0 hz1 _ _ _ _ tys.length rfl rfl rfl rfl (by rw [hz2]; omega) (by unfold maxLen; omega) (Nat.le_refl _) ?_; intro w1 hown1 hgrow1)
  have hb1 : Below w.heap.size w w1 := (Below.refl _ _).grown hgrow1 (Nat.le_refl _) (by intro k hk; cases hk)
  have hlt1 : w.heap.size < w1.heap.size := by
    obtain ⟨_, ⟨h, _⟩ | ⟨g, cap, cur, h, hb, hh, _⟩⟩ := hown1
    · cases h
    · simp at h
      obtain ⟨rfl, _⟩ := h
      exact (Array.getElem?_eq_some_iff.1 hh).1
  clear hgrow1
  go_loopw [18] (fun i wr => ∃ (k : Nat) (R : List Value), k ≤ tys.length ∧ i = .int .i64 k ∧ R.length = tys.length ∧ R.take k = (tys.take k).map tyv ∧ (tys.take k).all isType = true ∧ wr.ownsRow w.heap.size 83 1 (.slice (some ⟨w.heap.size, 0, none⟩) tys.length tys.length) tys.length R ∧ Below w.heap.size w wr) (fun i _ => tys.length - (intOf i).toNat)
  case atStart =>
    refine ⟨0, _, Nat.zero_le _, rfl, ?_, rfl, rfl, hown1, hb1⟩
    have := hown1.1
    simpa using this
  case round =>
    obtain ⟨k, R, hk, rfl, hRl, hRt, hall, hown, hbel⟩ := hrel
    have HR : Hid _ := hRt
    have HA : Hid _ := hall
    have HRl : Hid _ := hRl
    clear hRt hall hRl hown1
    by_cases hlt : k < tys.length
    · obtain ⟨x, HX⟩ : ∃ x, Hid (tys[k] = x) := exHid _
      have hcx : wr.cell? ⟨bw, offw + k, none⟩ = some (.string (bs x)) := by
        rw [hbel.cell (p := ⟨bw, offw + k, none⟩) hb, HC.out k hlt, ← HX.out]
        simp [List.getD, hlt]
      by_cases hxt : isType x = true
      · have hrt := readType_yes (x == sText) wr
        rw [← isType_form hxt] at hrt
        have hst := hown.stored k (tyv x)
        have hfz := hown.frozenAt k
        have hce := hown.cellAt k (by omega)
        have hRk : R[k]? = some (R[k]'(by rw [HRl.out]; exact hlt)) := List.getElem?_eq_getElem _
        rw [hRk] at hce
        have HS : Hid _ := hst.1
        have hsz := hbel.size
        clear hst hown hRk
        generalize R[k]'(by rw [HRl.out]; exact hlt) = old at hce
        go_wp2_with (go_at_call 69; refine hrt.mono ?_; rintro e w' ⟨rfl, hw⟩; obtain rfl := hw.symm)
        go_roundw
        case rel =>
          refine ⟨k + 1, R.set k (tyv x), by omega, by go_num, by simp [HRl.out], ?_, ?_, HS.out, hbel.setCell (by simp) _⟩
          · rw [take_set_step R k _ (by rw [HRl.out]; exact hlt) _ HR.out, List.take_succ_eq_append_getElem hlt, List.map_append, HX.out]
            rfl
          · rw [List.take_succ_eq_append_getElem hlt, HX.out, List.all_append, HA.out]; simp [hxt]
        case measure => simp [intOf]; omega
      · have hxi : (x == sInt) = false ∧ (x == sText) = false := by simpa [isType] using hxt
        obtain ⟨hx1, hx2⟩ := hxi
        have hrt := readType_no x wr hx1 hx2
        have hbad : Hid (tys.all isType = false) := Hid.mk (by
          rw [List.all_eq_false]
          exact ⟨tys[k], List.getElem_mem hlt, by rw [HX.out]; simpa using hxt⟩)
        have hsz := hbel.size
        clear hxt hown
        go_wp2_with (first
          | (go_at_call 69; refine hrt.mono ?_; rintro e w' ⟨rfl, hw⟩; obtain rfl := hw.symm)
          | (go_at_call 22; refine (schemaFault_any _ _).mono ?_; rintro e w' ⟨rfl, rfl⟩))
        go_ret2
        refine ⟨⟨_, _, rfl, ⟨_, _, _, rfl⟩, fun h => ?_, fun _ => Err.newWrap _ _ _ _ _⟩, (hbel.alloc hsz _).alloc (by simp; omega) _⟩
        rw [hbad.out] at h; cases h
    · have hall2 : tys.all isType = true := by
        have := HA.out
        rwa [List.take_of_length_le (by omega)] at this
      have hR2 : R = tys.map tyv := by
        have := HR.out
        rwa [List.take_of_length_le (by rw [HRl.out]; omega), List.take_of_length_le (by omega)] at this
      subst hR2
      have HO : Hid _ := hown
      have HA2 : Hid _ := hall2
      clear hown hall2
      go_wp2
      go_ret2
      refine ⟨⟨_, _, rfl, ⟨_, _, _, rfl⟩, fun _ => ⟨rfl, HO.out⟩, fun h => ?_⟩, hbel⟩
      rw [HA2.out] at h; cases h
end Go.Proofs.YtiekijfmafklfaaGreatDoor
