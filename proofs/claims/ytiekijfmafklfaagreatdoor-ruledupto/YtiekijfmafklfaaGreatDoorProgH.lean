import Derived.Test.YtiekijfmafklfaaGreatDoorProgA
namespace Go.Proofs.YtiekijfmafklfaaGreatDoor
open Go.RowKit

theorem ret_sb {S : ByteArray} {a b : Bool} (h : a = b) : Ending.returned (.tuple #[.string S, .bool a]) = .returned (.tuple #[.string S, .bool b]) := by rw [h]

theorem text_all {s d : ByteArray} (hd : d.data.toList = midOf s.data.toList) (h2 : 2 ≤ s.size) (h14 : s.size ≤ 14) (h0 : s[0] = 39) (h1 : s[s.size - 1]'(by omega) = 39) : isTextL s.data.toList = allText d.data.toList := by
  have e2 : 2 ≤ s.data.toList.length := by simpa using h2
  have e14 : s.data.toList.length ≤ 14 := by simpa using h14
  simp only [isTextL, decide_eq_true e2, decide_eq_true e14, head0 (show 0 < s.size by omega), last0 (show 0 < s.size by omega), h0, h1, allText, hd]
  simp

set_option maxRecDepth 10000 in
set_option maxHeartbeats 1000000 in
theorem readText_any (s : ByteArray) (w : World) (hs : s.size ≤ 1048577) :
    Calls Tryz.prog 121 #[.string s] w fun e w' => (∃ S, e = .returned (.tuple #[.string S, .bool (isTextL s.data.toList)])) ∧ w' = w := by
  obtain ⟨bb, HB⟩ : ∃ bb, Hid (isTextL s.data.toList = bb) := exHid _
  rw [HB.out]
  by_cases h2 : s.size < 2
  · have HR : Hid (bb = false) := Hid.mk (HB.out.symm.trans (text_short h2))
    go_enter Tryz.func121, Tryz.ntmps121
    go_wp2
    go_ret2
    exact ⟨⟨_, ret_sb HR.out.symm⟩, rfl⟩
  by_cases h14 : 14 < s.size
  · have HR : Hid (bb = false) := Hid.mk (HB.out.symm.trans (text_long h14))
    go_enter Tryz.func121, Tryz.ntmps121
    go_wp2
    go_ret2
    exact ⟨⟨_, ret_sb HR.out.symm⟩, rfl⟩
  have hpos : 0 < s.size := by omega
  by_cases h0 : s[0] = 39
  case neg =>
    have HR : Hid (bb = false) := Hid.mk (HB.out.symm.trans (text_first hpos h0))
    have h0p : ¬ (s[0].toNat : Int) = 39 := fun h => h0 (UInt8.toNat_inj.1 (by simp; omega))
    have h0' : ((s[0].toNat : Int) != 39) = true := by simpa using h0p
    clear h0
    go_enter Tryz.func121, Tryz.ntmps121
    go_wp2
    go_ret2
    exact ⟨⟨_, ret_sb HR.out.symm⟩, rfl⟩
  by_cases h1 : s[s.size - 1]'(by omega) = 39
  case neg =>
    have HR : Hid (bb = false) := Hid.mk (HB.out.symm.trans (text_last hpos h1))
    have h1p : ¬ ((s[s.size - 1]'(by omega)).toNat : Int) = 39 := fun h => h1 (UInt8.toNat_inj.1 (by simp; omega))
    have h1' : (((s[s.size - 1]'(by omega)).toNat : Int) != 39) = true := by simpa using h1p
    have h0n : ((s[0].toNat : Int) != 39) = false := by simp [h0]
    clear h0 h1
    go_enter Tryz.func121, Tryz.ntmps121
    go_wp2
    go_ret2
    exact ⟨⟨_, ret_sb HR.out.symm⟩, rfl⟩
  have h0' : (s[0].toNat : Int) = 39 := by simp [h0]
  have h0'' : ((s[0].toNat : Int) != 39) = false := by simp [h0]
  have h1' : ((s[s.size - 1]'(by omega)).toNat : Int) = 39 := by simp [h1]
  have h1'' : (((s[s.size - 1]'(by omega)).toNat : Int) != 39) = false := by simp [h1]
  have HR : Hid (bb = allText (s.extract 1 (s.size - 1)).data.toList) := Hid.mk (HB.out.symm.trans (text_all (mid_extract s) (by omega) (by omega) h0 h1))
  have hab := allBytes_text (s.extract 1 (s.size - 1)) w (by simp [maxLen]; omega)
  rw [← HR.out] at hab
  clear h0 h1 HB HR
  go_enter Tryz.func121, Tryz.ntmps121
  go_wp2_with (go_at_call 67; refine hab.mono ?_; rintro e w' ⟨rfl, hw⟩; obtain rfl := hw.symm)
  go_ret2
  exact ⟨⟨_, rfl⟩, rfl⟩
end Go.Proofs.YtiekijfmafklfaaGreatDoor
