import Derived.Test.YtnpjldffciociaaFrE
import Derived.BigQuiet
namespace Go.Proofs.Ytnpjldffciociaa
open Go.RowKit

theorem Try.infoStr : (Try.prog.info? 9).map (fun i => (i.zero, i.size, i.bytes)) = some (some (.string ByteArray.empty), 1, 16) := by kernel_rfl
theorem bs_toList2 (l : List UInt8) : (bs l).toList = l := by rw [ByteArray.toList_eq]; rfl
abbrev sv (l : List UInt8) : Value := .string (bs l)
theorem ex_bs (s : ByteArray) (i j : Nat) : s.extract i j = bs ((s.data.toList.take j).drop i) := by
  rw [← extract_toList, bs_eta]
/-- The list of the payloads, of the call's own. -/
abbrev OwnT (base : Nat) (v : Value) (ls : List (List UInt8)) (w : World) : Prop := w.ownsRow base 9 1 v ls.length (ls.map sv)

theorem owns_snoc {base : Nat} {v : Value} {ls : List (List UInt8)} {p : List UInt8} {w : World} (h : w.ownsRow base 9 1 v (ls.length + 1) (ls.map sv ++ [sv p])) : OwnT base v (ls ++ [p]) w := by
  unfold OwnT
  rw [List.map_append, List.length_append]
  exact h
theorem drop_four {b : List UInt8} {k : Nat} (h : k + 4 ≤ b.length) : ∃ a0 a1 a2 a3 r, b.drop k = a0 :: a1 :: a2 :: a3 :: r ∧ b[k]? = some a0 ∧ b[k + 1]? = some a1 ∧ b[k + 2]? = some a2 ∧ b[k + 3]? = some a3 := by
  have hl : 4 ≤ (b.drop k).length := by rw [List.length_drop]; omega
  match hd : b.drop k, hl with
  | a0 :: a1 :: a2 :: a3 :: r, _ =>
    refine ⟨a0, a1, a2, a3, r, rfl, ?_, ?_, ?_, ?_⟩
    · have := List.getElem?_drop (xs := b) (i := k) (j := 0); rw [hd] at this; simpa using this.symm
    · have := List.getElem?_drop (xs := b) (i := k) (j := 1); rw [hd] at this; simpa using this.symm
    · have := List.getElem?_drop (xs := b) (i := k) (j := 2); rw [hd] at this; simpa using this.symm
    · have := List.getElem?_drop (xs := b) (i := k) (j := 3); rw [hd] at this; simpa using this.symm
theorem at_byte {s : ByteArray} {k : Nat} {a : UInt8} (h : s.data.toList[k]? = some a) (hk : k < s.size) : s[k] = a := by
  rw [List.getElem?_eq_getElem (by simpa using hk)] at h
  exact Option.some.inj h

set_option maxRecDepth 10000 in
set_option maxHeartbeats 2000000 in
theorem ref_unpack (s : ByteArray) (w : World) (hs : s.size ≤ 4194304) :
    Calls Try.prog 13 #[.string s] w fun e w' => ∃ v, e = .returned (.tuple #[v, .int .i64 (cutL s.data.toList).2.1, .bool (cutL s.data.toList).2.2]) ∧ OwnT w.heap.size v (cutL s.data.toList).1 w' ∧ Below w.heap.size w w' := by
  have hsz : s.data.toList.length = s.size := by simp
  obtain ⟨i00, hi, hz0, hz1, hz2⟩ := info_parts Try.infoStr
  have HI := hidM hi
  have HZ0 := hidM hz0
  have HZ1 := hidM hz1
  have HZ2 := hidM hz2
  clear hi hz0 hz1 hz2
  go_enter Try.func13, Try.ntmps13
  go_wp2
  go_loopw [5, 6] (fun v i wr => ∃ (k : Nat) (ls : List (List UInt8)), i = .int .i64 k ∧ Hid (Went s.data.toList k ls) ∧ Hid (OwnT w.heap.size v ls wr) ∧ Hid (Below w.heap.size w wr) ∧ ls.length ≤ k ∧ k ≤ s.size) (fun _ i _ => s.size - (intOf i).toNat)
  case atStart => exact ⟨0, [], rfl, hidM (Went.start _), hidM (World.ownsRow_nil _ _ _ _), hidM (Below.refl _ _), by simp, by omega⟩
  case round =>
    obtain ⟨k, ls, rfl, HW, HO, HB, hlk, hkb⟩ := hrel
    have hws : w.heap.size ≤ wr.heap.size := HB.out.size
    by_cases h4 : k + 4 ≤ s.size
    · obtain ⟨a0, a1, a2, a3, r, hd, g0, g1, g2, g3⟩ := drop_four (b := s.data.toList) (k := k) (by omega)
      have i0 := at_byte g0 (by omega)
      have i1 := at_byte g1 (by omega)
      have i2 := at_byte g2 (by omega)
      have i3 := at_byte g3 (by omega)
      have z0 := a0.toNat_lt; have z1 := a1.toNat_lt; have z2 := a2.toNat_lt; have z3 := a3.toNat_lt
      have b0 : 0 ≤ (k : Int) ∧ (k : Int) < s.size := by omega
      have b1 : 0 ≤ (k : Int) + 1 ∧ (k : Int) + 1 < s.size := by omega
      have b2 : 0 ≤ (k : Int) + 2 ∧ (k : Int) + 2 < s.size := by omega
      have b3 : 0 ≤ (k : Int) + 3 ∧ (k : Int) + 3 < s.size := by omega
      have HD := hidM hd
      clear hd g0 g1 g2 g3
      have hnn : (((a0.toNat : Int) * 256 + a1.toNat) * 256 + a2.toNat) * 256 + a3.toNat = (numL (s.data.toList.drop k) : Nat) := by rw [HD.out]; simp [numL]
      have hnl := numL_lt (s.data.toList.drop k)
      go_wp2
      go_quiet (fail)
      clear hnn HD
      have HO2 := hidM (show OwnT w.heap.size u5 ls (wr.drewN nq) from HO.out)
      have HB2 := hidM (belowN HB.out nq)
      clear HO HB
      have hws2 : w.heap.size ≤ (wr.drewN nq).heap.size := hws
      generalize wr.drewN nq = wq at *
      have hf1 : (s.data.toList.drop k).length = s.size - k := by rw [List.length_drop, hsz]
      generalize hn : numL (s.data.toList.drop k) = n at *
      by_cases hb : n < 1 ∨ 1000 < n
      · have HC := hidM (HW.out.broken (by unfold fstL; rw [if_neg (by omega), if_pos (by omega)]))
        rcases hb with hb | hb
        all_goals
          go_wp2
          go_ret3
          rw [HC.out]
          exact ⟨_, rfl, HO2.out, HB2.out⟩
      · have hb1 : 1 ≤ n := by omega
        have hb2 : n ≤ 1000 := by omega
        by_cases h8 : s.size < k + n + 8
        · have HC := hidM (HW.out.front (by unfold fstL; rw [if_neg (by omega), if_neg (by omega), if_pos (by omega)]))
          go_wp2
          go_ret3
          rw [HC.out]
          exact ⟨_, rfl, HO2.out, HB2.out⟩
        · have hfst : fstL (s.data.toList.drop k) = if numL ((s.data.toList.drop k).drop (4 + n)) = crcL (((s.data.toList.drop k).drop 4).take n) then some (some n) else some none := by
            unfold fstL; rw [if_neg (by omega), hn, if_neg (by omega), if_neg (by omega)]
          have hmade := fstL_made (b := s.data.toList.drop k) (by omega) (by omega)
          rw [hn] at hmade
          obtain ⟨p, hp⟩ : ∃ p, p = ((s.data.toList.drop k).drop 4).take n := ⟨_, rfl⟩
          rw [← hp] at hfst hmade
          have hpl : p.length = n := by rw [hp]; simp; omega
          have hx1 : s.extract (k + 4) (k + 4 + n) = bs p := by
            rw [ex_bs, hp, List.drop_drop, List.drop_take]; congr 2; omega
          have hx2 : s.extract k (k + n + 8) = bs ((s.data.toList.drop k).take (n + 8)) := by
            rw [ex_bs, List.drop_take]; congr 2; omega
          have hpk := fun w => ref_pack p w (by omega)
          by_cases hq : (s.data.toList.drop k).take (n + 8) = packL p
          · rw [hq] at hx2
            have HC := hidM (HW.out.step (by rw [hfst, if_pos (hmade.1 hq)]))
            rw [← hp] at HC
            clear hfst hmade hp hn hq
            go_wp2_with (first
              | (go_at_call 7; refine (hpk _).mono ?_; rintro e w2 ⟨rfl, hb2⟩)
              | (at_builtin; refine append_one rfl _ _ 30 rfl w.heap.size 9 i00 (.string ByteArray.empty) 16 Try.underlying30 HI.out HZ0.out HZ1.out HZ2.out rfl _ _ _ rfl (owns_below HO2.out hb2) (sv p) rfl rfl (by unfold maxLen; omega) (by omega) (Nat.le_trans hws2 hb2.size) ?_; intro v' w3 hown' hb3 _))
            have HO3 := hidM hown'
            have HB3 := hidM ((HB2.out.trans (hb2.mono hws2)).trans hb3)
            clear hown' hb2 hb3
            refine ⟨⟨k + n + 8, ls ++ [p], by go_num, HC, hidM (owns_snoc HO3.out), HB3, by simp; omega, by omega⟩, by simp [intOf]; omega⟩
          · have HC := hidM (HW.out.broken (by rw [hfst, if_neg (fun e => hq (hmade.2 e))]))
            have hne : ((s.data.toList.drop k).take (n + 8) == packL p) = false := by simpa using hq
            have hbs := bs_toList2
            clear hfst hmade hp hn hq
            go_wp2_with (go_at_call 7; refine (hpk _).mono ?_; rintro e w2 ⟨rfl, hb2⟩)
            go_ret3
            rw [HC.out]
            exact ⟨_, rfl, owns_below HO2.out hb2, HB2.out.trans (hb2.mono hws2)⟩
    · have HC := hidM (HW.out.front (by unfold fstL; rw [if_pos (by rw [List.length_drop, hsz]; omega)]))
      go_wp2
      go_ret3
      rw [HC.out]
      exact ⟨_, rfl, HO.out, HB.out⟩
end Go.Proofs.Ytnpjldffciociaa
