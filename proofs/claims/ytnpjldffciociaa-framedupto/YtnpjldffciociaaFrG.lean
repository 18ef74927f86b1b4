import Derived.Test.YtnpjldffciociaaFrD
import Derived.Test.YtnpjldffciociaaFrF
namespace Go.Proofs.Ytnpjldffciociaa
open Go.RowKit

set_option maxRecDepth 10000 in
set_option maxHeartbeats 400000 in
theorem pclone (s : ByteArray) (w : World) (hs : s.size ≤ 281474976710656) : Calls Try.prog 27 #[.string s] w fun e w' => e = .returned (.string s) ∧ Below w.heap.size w w' := by
  have hp := Try.stringslite_Clone s w hs
  go_enter Try.func27, Try.ntmps27
  go_wp2_with (go_at_call 33; refine hp.mono ?_)
  rintro e w1 ⟨rfl, h1⟩
  go_wp2
  go_ret
  exact ⟨rfl, h1⟩

set_option maxRecDepth 10000 in
set_option maxHeartbeats 2000000 in
theorem punpack (s : ByteArray) (w : World) (hs : s.size ≤ 4194304) :
    Calls Try.prog 18 #[.string s] w fun e w' => ∃ v, e = .returned (.tuple #[v, .int .i64 (cutL s.data.toList).2.1, .bool (cutL s.data.toList).2.2]) ∧ OwnT w.heap.size v (cutL s.data.toList).1 w' ∧ Below w.heap.size w w' := by
  have hsz : s.data.toList.length = s.size := by simp
  obtain ⟨i00, hi, hz0, hz1, hz2⟩ := info_parts Try.infoStr
  have HI := hidM hi
  have HZ0 := hidM hz0
  have HZ1 := hidM hz1
  have HZ2 := hidM hz2
  clear hi hz0 hz1 hz2
  go_enter Try.func18, Try.ntmps18
  go_wp2
  go_loopw [5, 6] (fun v i wr => ∃ (k : Nat) (ls : List (List UInt8)), i = .int .i64 k ∧ Hid (Went s.data.toList k ls) ∧ Hid (OwnT w.heap.size v ls wr) ∧ Hid (Below w.heap.size w wr) ∧ ls.length ≤ k ∧ k ≤ s.size) (fun _ i _ => s.size - (intOf i).toNat)
  case atStart => exact ⟨0, [], rfl, hidM (Went.start _), hidM (World.ownsRow_nil _ _ _ _), hidM (Below.refl _ _), by simp, by omega⟩
  case round =>
    obtain ⟨k, ls, rfl, HW, HO, HB, hlk, hkb⟩ := hrel
    have hws : w.heap.size ≤ wr.heap.size := HB.out.size
    have hpf := pfirst (s.extract k s.size) wr (by rw [ByteArray.size_extract]; unfold maxLen; omega)
    have hdk : (s.extract k s.size).data.toList = s.data.toList.drop k := by
      rw [extract_toList, List.take_of_length_le (by omega)]
    rw [hdk] at hpf
    match hf : fstL (s.data.toList.drop k) with
    | none =>
      have HC := hidM (HW.out.front hf)
      rw [hf] at hpf
      simp only [fstV] at hpf
      clear hdk hf
      go_wp2_with (go_at_call 26; refine hpf.mono ?_; rintro e w' ⟨rfl, hw⟩; obtain rfl := hw.symm)
      go_ret3
      rw [HC.out]
      exact ⟨_, rfl, HO.out, HB.out⟩
    | some none =>
      have HC := hidM (HW.out.broken hf)
      rw [hf] at hpf
      simp only [fstV] at hpf
      clear hdk hf
      go_wp2_with (go_at_call 26; refine hpf.mono ?_; rintro e w' ⟨rfl, hw⟩; obtain rfl := hw.symm)
      go_ret3
      rw [HC.out]
      exact ⟨_, rfl, HO.out, HB.out⟩
    | some (some n) =>
      have HC := hidM (HW.out.step hf)
      have hw := fstL_whole hf
      have hwl : n + 8 ≤ s.size - k := by have := hw.2.2.2.1; rw [List.length_drop, hsz] at this; exact this
      have hw1 := hw.2.1
      have hw2 := hw.2.2.1
      rw [hf] at hpf
      simp only [fstV] at hpf
      obtain ⟨p, hp⟩ : ∃ p, p = ((s.data.toList.drop k).drop 4).take n := ⟨_, rfl⟩
      have hpl : p.length = n := by rw [hp]; simp; omega
      have hx1 : (s.extract k s.size).extract 4 (4 + n) = bs p := by
        rw [ex_bs, hdk, hp, List.drop_take]; congr 2; omega
      rw [hx1] at hpf
      rw [← hp] at HC
      have hcl := pclone (bs p) wr (by rw [bs_size]; omega)
      have hbsz : (bs p).size = n := hpl
      clear hdk hf hw hp hx1
      go_wp2_with (first
        | (go_at_call 26; refine hpf.mono ?_; rintro e w' ⟨rfl, hw⟩; obtain rfl := hw.symm)
        | (go_at_call 27; refine hcl.mono ?_; rintro e w2 ⟨rfl, hb2⟩)
        | (at_builtin; refine append_one rfl _ _ 30 rfl w.heap.size 9 i00 (.string ByteArray.empty) 16 Try.underlying30 HI.out HZ0.out HZ1.out HZ2.out rfl _ _ _ rfl (owns_below HO.out hb2) (sv p) rfl rfl (by unfold maxLen; omega) (by omega) (Nat.le_trans hws hb2.size) ?_; intro v' w3 hown' hb3 _))
      have HO3 := hidM hown'
      have HB3 := hidM ((HB.out.trans (hb2.mono hws)).trans hb3)
      clear hown' hb2 hb3
      refine ⟨⟨k + n + 8, ls ++ [p], ?_, HC, hidM (owns_snoc HO3.out), HB3, by simp; omega, by omega⟩, by simp [intOf]; omega⟩
      go_num

set_option maxRecDepth 10000 in
set_option maxHeartbeats 400000 in
theorem vunpack (s : ByteArray) (w : World) (hs : s.size ≤ 4194304) :
    Calls Try.prog 11 #[.string s] w fun e w' => ∃ v, e = .returned (.tuple #[v, .int .i64 (cutL s.data.toList).2.1, .bool (cutL s.data.toList).2.2]) ∧ OwnT w.heap.size v (cutL s.data.toList).1 w' ∧ Below w.heap.size w w' := by
  have hp := punpack s w hs
  go_enter Try.func11, Try.ntmps11
  go_wp2_with (go_at_call 18; refine hp.mono ?_)
  rintro e w1 ⟨v, rfl, h1, h2⟩
  go_wp2
  go_ret3
  exact ⟨v, rfl, h1, h2⟩
end Go.Proofs.Ytnpjldffciociaa
