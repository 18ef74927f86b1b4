import Derived.Test.YtnpjldffciociaaFrH
import Derived.Test.YtnpjldffciociaaFrPure3
import Derived.Deep.RegionWith
namespace Go.Proofs.Ytnpjldffciociaa
open Go.RowKit

/-- The ends, as the law keeps them. -/
def endsV (cs : List (List UInt8)) (k : Nat) : List Value := (List.range k).map fun i => .int .i64 (endAt cs (i + 1) : Nat)

set_option maxRecDepth 10000 in
set_option maxHeartbeats 400000 in
theorem kbroke_none (cap : Nat) (a : Option Addr) (s : ByteArray) (t x : Int) (w : World) :
    Calls Try.prog 12 #[.string s, .slice a 0 cap, .int .i64 t, .int .i64 x] w fun e w' => e = .returned (.bool true) ∧ w' = w := by
  go_enter Try.func12, Try.ntmps12
  go_wp2
  go_ret
  exact ⟨rfl, rfl⟩

theorem own_slice {base : Nat} {v : Value} {ls : List (List UInt8)} {w : World} {n : Nat} (h : OwnT base v ls w) (hl : ls.length = n) : ∃ a c, v = .slice a n c := by
  rcases h.2 with ⟨rfl, h0⟩ | ⟨g, cap, cur, rfl, _⟩
  · exact ⟨none, 0, by rw [← hl, h0]⟩
  · exact ⟨_, _, by rw [← hl]⟩
/-- '[]byte(l)': a new row. -/
theorem bytes_new (l : List UInt8) (w : World) : ∃ w1 cap, (convert 9 43 (.string (bs l))).run Try.prog w = .ok (.slice (some ⟨w.heap.size, 0, none⟩) l.length cap) w1 ∧
    (∀ j (hj : j < l.length), w1.cell? ⟨w.heap.size, j, none⟩ = some (.int .u8 (l[j].toNat : Int))) ∧ (∀ j, j < l.length → w1.frozen? ⟨w.heap.size, j, none⟩ = false) ∧
    Below w.heap.size w w1 ∧ w.heap.size < w1.heap.size ∧ l.length ≤ cap := by
  have hcv := run_bytes_of_string (P := Try.prog) w 9 43 5 (bs l) Try.underlying9 Try.underlying43 Try.underlying5
  rw [bs_size] at hcv
  have hge := grownCap_ge w l.length 0 5
  refine ⟨_, _, hcv, fun j hj => ?_, fun j hj => ?_, ?_, ?_, hge⟩
  · rw [show (⟨w.heap.size, j, none⟩ : Addr) = ⟨w.drew.heap.size, j, none⟩ from rfl, World.cell?_alloc_mark, bytesRow_at _ _ _ (show j < (bs l).data.size from hj)]
    rfl
  · rw [show (⟨w.heap.size, j, none⟩ : Addr) = ⟨w.drew.heap.size, j, none⟩ from rfl, World.frozen?_alloc_mark]
    have : ¬ (bytesRow (bs l) (grownCap w l.length 0 5)).size ≤ j := by
      simp [bytesRow]; omega
    simp [this]
  · exact (Below.refl _ _).alloc (w := w.drew) (Nat.le_refl _) _ |> fun h => ⟨h.os, h.tape, h.output, h.size, h.block⟩
  · show w.heap.size < (w.heap.push _).size
    simp

/-- One byte of it turned. -/
theorem turned_row (l : List UInt8) (w w1 : World) (cap i q : Nat) (c : UInt8) (hby : ∀ j (hj : j < l.length), w1.cell? ⟨w.heap.size, j, none⟩ = some (.int .u8 (l[j].toNat : Int)))
    (hb1 : Below w.heap.size w w1) (hi : i < l.length) (hc : l[i] = c) (hq : q < 255) :
    ∃ w2 d, (w1.setCell ⟨w.heap.size, i, none⟩ (.int .u8 (bits .xor .u8 (c.toNat : Int) (IntKind.u8.wrap (IntKind.i64.wrap ((q : Int) + 1)))))).drew = w2 ∧ l[i]? ≠ some d ∧
      (convert 43 9 (.slice (some ⟨w.heap.size, 0, none⟩) l.length cap)).run Try.prog w2 = .ok (.string (bs (l.set i d))) w2 ∧ Below w.heap.size w w2 := by
  have hw : IntKind.u8.wrap (IntKind.i64.wrap ((q : Int) + 1)) = ((q + 1 : Nat) : Int) := by simp [IntKind.wrap, IntKind.bits, IntKind.signed]; omega
  have hlt : c.toNat ^^^ (q + 1) < 256 := Nat.xor_lt_two_pow (n := 8) c.toNat_lt (by omega)
  have hd : (UInt8.ofNat (c.toNat ^^^ (q + 1))).toNat = c.toNat ^^^ (q + 1) := by rw [ofNat_toNat, Nat.mod_eq_of_lt hlt]
  rw [hw, u8_xor_nat _ _ c.toNat_lt (by omega), ← hd]
  refine ⟨_, UInt8.ofNat (c.toNat ^^^ (q + 1)), rfl, ?_, ?_, ?_⟩
  · rw [List.getElem?_eq_getElem hi, hc]
    intro e
    have e1 : c.toNat = c.toNat ^^^ (q + 1) := by rw [← hd]; exact congrArg UInt8.toNat (Option.some.inj e)
    have e2 : c.toNat ^^^ 0 = c.toNat ^^^ (q + 1) := by rw [Nat.xor_zero]; exact e1
    have := xor_inj_left e2
    omega
  · generalize UInt8.ofNat (c.toNat ^^^ (q + 1)) = d
    have h := run_convert_bytes_back (P := Try.prog) (w1.setCell ⟨w.heap.size, i, none⟩ (.int .u8 (d.toNat : Int))).drew 43 9 5 ⟨w.heap.size, 0, none⟩ cap (l.set i d) Try.underlying43 Try.underlying5 Try.underlying9 ?_
    · rw [List.length_set] at h; exact h
    · intro j hj
      have hj' : j < l.length := by simpa using hj
      have ha : (⟨w.heap.size, 0, none⟩ : Addr).add j = ⟨w.heap.size, j, none⟩ := by simp [Addr.add]; omega
      rw [ha]
      show (w1.setCell ⟨w.heap.size, i, none⟩ (.int .u8 (d.toNat : Int))).cell? _ = _
      by_cases hij : i = j
      · subst hij
        rw [World.cell?_setCell_same _ _ _ (hby i hi)]; simp
      · rw [World.cell?_setCell_other _ _ _ _ (fun e => hij (by simpa using congrArg Addr.off e)), hby j hj', List.getElem_set_ne hij]
  · have h := hb1.setCell (p := ⟨w.heap.size, i, none⟩) (Nat.le_refl _) (.int .u8 ((UInt8.ofNat (c.toNat ^^^ (q + 1))).toNat : Int))
    exact ⟨h.os, h.tape, h.output, h.size, h.block⟩

set_option maxRecDepth 10000 in
set_option maxHeartbeats 2000000 in
theorem kbroke_some (cs : List (List UInt8)) (hf : ∀ p ∈ cs, Fits p) (hcl : cs.length ≤ 100) (h0 : 0 < cs.length) (g cap : Nat) (t x : Int) (w : World)
    (hcell : ∀ i, i < cs.length → w.cell? ⟨g, i, none⟩ = some (.int .i64 (endAt cs (i + 1) : Nat)))
    (ht1 : -9223372036854775808 ≤ t) (ht2 : t ≤ 9223372036854775807) (hx1 : -9223372036854775808 ≤ x) (hx2 : x ≤ 9223372036854775807) :
    Calls Try.prog 12 #[.string (bs (packsL cs)), .slice (some ⟨g, 0, none⟩) cs.length cap, .int .i64 t, .int .i64 x] w fun e w' => e = .returned (.bool true) ∧ Below w.heap.size w w' := by
  have hlen := packs_le cs hf
  have hp1 := kpick t cs.length w ht1 ht2 h0 (by omega)
  obtain ⟨w1, bcap, hcv, hby, hfz, hb1, hs1, hbc⟩ := bytes_new (packsL cs) w
  have HBY := hidM hby
  have HFZ := hidM hfz
  have HB1 := hidM hb1
  clear hby hfz hb1
  have HX := hidM hcell
  have HF := hidM hf
  clear hcell hf
  go_enter Try.func12, Try.ntmps12
  go_wp2_with (go_at_call 10; refine hp1.mono ?_)
  rintro e w' ⟨⟨k, hk, rfl⟩, hw⟩; obtain rfl := hw.symm
  have hE := endAt_succ cs k hk
  have hle := endAt_le cs (k + 1)
  have hp2 : ∀ y : Int, y = ((cs[k].length + 4 : Nat) : Int) → Calls Try.prog 10 #[.int .i64 t, .int .i64 y] w fun e w' => (∃ r : Nat, r < cs[k].length + 4 ∧ e = .returned (.int .i64 r)) ∧ w' = w := by
    rintro y rfl; exact kpick t _ w ht1 ht2 (by omega) (by omega)
  have hc1 := HX.out k hk
  have H0 : k = 0 ∨ ∃ k', k = k' + 1 := by cases k with
    | zero => exact Or.inl rfl
    | succ k' => exact Or.inr ⟨k', rfl⟩
  rcases H0 with rfl | ⟨k', rfl⟩
  · have hz := endAt_zero cs
    rw [hz] at hE
    go_wp2_with (go_at_call 10; refine (hp2 _ (by omega)).mono ?_)
    rintro e w' ⟨⟨r, hr, rfl⟩, hw⟩; obtain rfl := hw.symm
    clear hp1 hp2 HX hc1
    obtain ⟨i, hiN⟩ : ∃ i, i = endAt cs 0 + 4 + r := ⟨_, rfl⟩
    have hii : (4 : Int) + r = (i : Nat) := by omega
    have hi : i < (packsL cs).length := by omega
    have hcc := HBY.out _ hi
    have hff := HFZ.out _ hi
    have hp3 := fun w => kpick x 255 w hx1 hx2 (by omega) (by omega)
    generalize hc : (packsL cs)[i] = c at hcc
    have hcl := c.toNat_lt
    have bb : 0 ≤ (i : Int) ∧ (i : Int) < ((packsL cs).length : Nat) := by omega
    have HiN := hidM hiN
    clear hiN
    go_wp2
    go_region_with (go_at_call 10; refine (hp3 _).mono ?_; rintro e w' ⟨⟨q, hq, rfl⟩, hw⟩; obtain rfl := hw.symm)
    all_goals
      obtain ⟨w2, d, hw2, hne, hcb, hB2⟩ := turned_row (packsL cs) w w1 bcap i q c HBY.out HB1.out hi hc hq
      rw [hw2]
      have hcut := cut_turned cs HF.out 0 r hk hr d (by rw [← HiN.out]; exact hne)
      rw [← HiN.out] at hcut
      have hvu := vunpack (bs ((packsL cs).set i d)) w2 (by rw [bs_size, List.length_set]; omega)
      rw [bs_toList, hcut] at hvu
      have HB2 := hidM hB2
      clear hw2 hne hB2 HiN hii bb hff hcc hc hcl hp3 hcut HF HFZ HBY HB1
      have hl : (cs.take 0).length = 0 := by rw [List.length_take]; omega
      go_wp2_with (go_at_call 11; refine hvu.mono ?_; rintro e w3 ⟨v, rfl, hO, hB3⟩; obtain ⟨a, vc, rfl⟩ := own_slice hO hl; have HB3 := hidM (HB2.out.trans (hB3.mono HB2.out.size)))
      go_ret
      exact ⟨rfl, HB3.out⟩
  · have hc0 := HX.out k' (by omega)
    go_wp2_with (go_at_call 10; refine (hp2 _ (by omega)).mono ?_)
    rintro e w' ⟨⟨r, hr, rfl⟩, hw⟩; obtain rfl := hw.symm
    clear hp1 hp2 HX hc0 hc1
    obtain ⟨i, hiN⟩ : ∃ i, i = endAt cs (k' + 1) + 4 + r := ⟨_, rfl⟩
    have hii : ((endAt cs (k' + 1) : Nat) : Int) + 4 + r = (i : Nat) := by omega
    have hi : i < (packsL cs).length := by omega
    have hcc := HBY.out _ hi
    have hff := HFZ.out _ hi
    have hp3 := fun w => kpick x 255 w hx1 hx2 (by omega) (by omega)
    generalize hc : (packsL cs)[i] = c at hcc
    have hcl := c.toNat_lt
    have bb : 0 ≤ (i : Int) ∧ (i : Int) < ((packsL cs).length : Nat) := by omega
    have HiN := hidM hiN
    clear hiN
    go_wp2
    go_region_with (go_at_call 10; refine (hp3 _).mono ?_; rintro e w' ⟨⟨q, hq, rfl⟩, hw⟩; obtain rfl := hw.symm)
    all_goals
      obtain ⟨w2, d, hw2, hne, hcb, hB2⟩ := turned_row (packsL cs) w w1 bcap i q c HBY.out HB1.out hi hc hq
      rw [hw2]
      have hcut := cut_turned cs HF.out (k' + 1) r hk hr d (by rw [← HiN.out]; exact hne)
      rw [← HiN.out] at hcut
      have hvu := vunpack (bs ((packsL cs).set i d)) w2 (by rw [bs_size, List.length_set]; omega)
      rw [bs_toList, hcut] at hvu
      have HB2 := hidM hB2
      clear hw2 hne hB2 HiN hii bb hff hcc hc hcl hp3 hcut HF HFZ HBY HB1
      have hl : (cs.take (k' + 1)).length = (k' + 1) := by rw [List.length_take]; omega
      go_wp2_with (go_at_call 11; refine hvu.mono ?_; rintro e w3 ⟨v, rfl, hO, hB3⟩; obtain ⟨a, vc, rfl⟩ := own_slice hO hl; have HB3 := hidM (HB2.out.trans (hB3.mono HB2.out.size)))
      go_ret
      exact ⟨rfl, HB3.out⟩
end Go.Proofs.Ytnpjldffciociaa
