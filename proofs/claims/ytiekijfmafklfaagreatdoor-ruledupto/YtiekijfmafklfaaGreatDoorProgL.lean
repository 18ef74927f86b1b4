import Derived.Test.YtiekijfmafklfaaGreatDoorProgK
import Derived.Deep.RegionWith
namespace Go.Proofs.YtiekijfmafklfaaGreatDoor
open Go.RowKit

def typeNum (ts : List Bool) (c : Nat) : Int := match ts[c]? with
  | some b => tnum b
  | none => 0

theorem typeNum_in {ts : List Bool} {c : Nat} (h : c < ts.length) : typeNum ts c = tnum ts[c] := by simp [typeNum, h]
theorem typeNum_out {ts : List Bool} {c : Nat} (h : ¬ c < ts.length) : typeNum ts c = 0 := by simp [typeNum, h]

set_option maxRecDepth 10000 in
set_option maxHeartbeats 1000000 in
theorem ptypeAt_in (w : World) (b off n cap c : Nat) (t : Int) (hc : c < n) (_hn : n ≤ 1048577) (hx : w.cell? ⟨b, off + c, none⟩ = some (.int .i64 t)) :
    Calls Tryz.prog 90 #[.slice (some ⟨b, off, none⟩) n cap, .int .i64 c] w fun e w' => e = .returned (.int .i64 t) ∧ w' = w := by
  have h2 : (c : Int) < (n : Int) := by omega
  have h3 : ¬ (n : Int) ≤ (c : Int) := by omega
  go_enter Tryz.func90, Tryz.ntmps90
  go_wp2
  go_ret
  exact ⟨rfl, rfl⟩

set_option maxRecDepth 10000 in
set_option maxHeartbeats 1000000 in
theorem ptypeAt_out (w : World) (a : Option Addr) (n cap c : Nat) (hc : n ≤ c) (_hn : c ≤ 1048577) :
    Calls Tryz.prog 90 #[.slice a n cap, .int .i64 c] w fun e w' => e = .returned (.int .i64 0) ∧ w' = w := by
  have h3 : (n : Int) ≤ (c : Int) := by omega
  go_enter Tryz.func90, Tryz.ntmps90
  go_wp2
  go_ret
  exact ⟨rfl, rfl⟩

theorem ptypeAt_any (w : World) (v : Value) (ts : List Bool) (c : Nat) (hv : Reads w v (ts.map tcode)) (hl : ts.length ≤ 1048577) (hc : c ≤ 1048577) :
    Calls Tryz.prog 90 #[v, .int .i64 c] w fun e w' => e = .returned (.int .i64 (typeNum ts c)) ∧ w' = w := by
  by_cases h : c < ts.length
  · rw [typeNum_in h]
    obtain ⟨a, cap, rfl, hcl⟩ := hv
    obtain ⟨b, off, rfl, _, hx⟩ := hcl c (tcode ts[c]) (by simp [h])
    rw [List.length_map]
    exact ptypeAt_in w b off _ cap c _ h hl hx
  · rw [typeNum_out h]
    obtain ⟨a, cap, rfl, _⟩ := hv
    rw [List.length_map]
    exact ptypeAt_out w a _ cap c (by omega) hc

set_option maxRecDepth 10000 in
set_option maxHeartbeats 1000000 in
theorem palike_any (w : World) (v v2 : Value) (c c2 : Nat) (t t2 : Int)
    (h1 : Calls Tryz.prog 90 #[v, .int .i64 c] w fun e w' => e = .returned (.int .i64 t) ∧ w' = w)
    (h2 : Calls Tryz.prog 90 #[v2, .int .i64 c2] w fun e w' => e = .returned (.int .i64 t2) ∧ w' = w) :
    Calls Tryz.prog 104 #[v, .int .i64 c, v2, .int .i64 c2] w fun e w' => e = .returned (.bool (decide (t ≠ 0) && decide (t = t2))) ∧ w' = w := by
  by_cases h0 : t = 0
  · subst h0
    go_enter Tryz.func104, Tryz.ntmps104
    go_wp2_with (go_at_call 90; with_reducible refine h1.mono ?_; rintro e w' ⟨rfl, hw⟩; obtain rfl := hw.symm)
    go_ret
    exact ⟨by simp, rfl⟩
  · go_enter Tryz.func104, Tryz.ntmps104
    go_wp2_with (go_at_call 90; first | (with_reducible refine h1.mono ?_; rintro e w' ⟨rfl, hw⟩; obtain rfl := hw.symm) | (with_reducible refine h2.mono ?_; rintro e w' ⟨rfl, hw⟩; obtain rfl := hw.symm))
    go_ret
    refine ⟨?_, rfl⟩
    by_cases h3 : t = t2
    · subst h3; simp [h0]
    · simp [h3]

set_option maxRecDepth 10000 in
set_option maxHeartbeats 1000000 in
theorem pwrong_any (w : World) (rb taken : Nat) (errno : Int) (s : ByteArray) (hr2 : w.cell? ⟨rb, 2, none⟩ = some (.int .i64 taken)) (hr3 : w.cell? ⟨rb, 3, none⟩ = some (.int .i64 errno)) (hlt : rb < w.heap.size) :
    Calls Tryz.prog 60 #[.pointer (some ⟨rb, 0, none⟩), .string s] w fun e w' => ∃ te pe, e = .returned (.iface te pe) ∧ Err w' errno (.iface te pe) ∧ Below w.heap.size w w' := by
  have hne : w.heap.size ≠ rb := by omega
  go_enter Tryz.func60, Tryz.ntmps60
  go_wp2
  go_region_with (go_at_call 27; with_reducible refine (pfault_any _ rb errno s ?hr).mono ?_; (case hr => first | exact hr3 | simpa [hne] using hr3); rintro e w' ⟨rfl, rfl⟩)
  all_goals go_wp2
  all_goals go_ret
  all_goals exact ⟨70, .pointer (some ⟨w.heap.size + 1, 0, none⟩), rfl, Err.kept (Err.newWrap _ _ _ _ _) ((Below.refl _ _).drew), (((Below.refl _ _).alloc (Nat.le_refl _) _).alloc (by simp) _).drew⟩
end Go.Proofs.YtiekijfmafklfaaGreatDoor
