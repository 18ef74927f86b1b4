import Derived.Test.YtiekijfmafklfaaGreatDoorProgLaw10
namespace Go.Proofs.YtiekijfmafklfaaGreatDoor
open Go.RowKit

set_option maxRecDepth 10000 in
set_option maxHeartbeats 1000000 in
theorem ru_none (v vw : Value) (x1 : List UInt8) (w : World)
    (hw : Calls Tryz.prog 61 #[vw, .int .i64 1] w fun e w' => e = .returned (.string (bs x1)) ∧ w' = w)
    (hf : Calls Tryz.prog 34 #[v, .string (bs x1)] w fun e w' => e = .returned (.int .i64 (-1)) ∧ w' = w) :
    Calls Tryz.prog 38 #[v, vw] w fun e w' => e = .returned (.bool false) ∧ w' = w := by
  go_enter Tryz.func38, Tryz.ntmps38
  go_wp2_with (first
    | (go_at_call 61; refine hw.mono ?_; rintro e w' ⟨rfl, rfl⟩)
    | (go_at_call 34; refine hf.mono ?_; rintro e w' ⟨rfl, rfl⟩))
  go_ret
  exact ⟨rfl, rfl⟩
set_option maxRecDepth 10000 in
set_option maxHeartbeats 1000000 in
theorem ru_else (b off len cap bt offt nt capt t : Nat) (x0 x1 : List UInt8) (w : World) (h1 : 1 < len) (hlen : len ≤ 1048577) (n1 : (x0 == wAllow) = false) (n2 : (x0 == wMask) = false)
    (hc0 : w.cell? ⟨b, off, none⟩ = some (.string (bs x0)))
    (hw : Calls Tryz.prog 61 #[.slice (some ⟨b, off, none⟩) len cap, .int .i64 1] w fun e w' => e = .returned (.string (bs x1)) ∧ w' = w)
    (hf : Calls Tryz.prog 34 #[.slice (some ⟨bt, offt, none⟩) nt capt, .string (bs x1)] w fun e w' => e = .returned (.int .i64 t) ∧ w' = w) :
    Calls Tryz.prog 38 #[.slice (some ⟨bt, offt, none⟩) nt capt, .slice (some ⟨b, off, none⟩) len cap] w fun e w' => e = .returned (.bool false) ∧ w' = w := by
  have hbs := bs_toList2
  have h0 : 0 < len := by omega
  go_enter Tryz.func38, Tryz.ntmps38
  go_wp2_with (first
    | (go_at_call 61; refine hw.mono ?_; rintro e w' ⟨rfl, rfl⟩)
    | (go_at_call 34; refine hf.mono ?_; rintro e w' ⟨rfl, rfl⟩))
  go_ret
  exact ⟨rfl, rfl⟩
set_option maxRecDepth 10000 in
set_option maxHeartbeats 1000000 in
theorem ru_allow (b off len cap bt offt nt capt t : Nat) (tv : Value) (r : Bool) (x1 : List UInt8) (w : World) (h1 : 1 < len) (hlen : len ≤ 1048577) (ht : t < nt) (_hnt : nt ≤ 1048577)
    (hc0 : w.cell? ⟨b, off, none⟩ = some (.string (bs wAllow))) (hct : w.cell? ⟨bt, offt + t * 2 + 1, none⟩ = some tv)
    (hw : Calls Tryz.prog 61 #[.slice (some ⟨b, off, none⟩) len cap, .int .i64 1] w fun e w' => e = .returned (.string (bs x1)) ∧ w' = w)
    (hf : Calls Tryz.prog 34 #[.slice (some ⟨bt, offt, none⟩) nt capt, .string (bs x1)] w fun e w' => e = .returned (.int .i64 t) ∧ w' = w)
    (hc : Calls Tryz.prog 62 #[.slice (some ⟨bt, offt, none⟩) nt capt, .slice (some ⟨b, off, none⟩) len cap, .int .i64 2, .int .i64 ((len : Int) - 2), tv, .bool true] w fun e w' => e = .returned (.bool r) ∧ Below w.heap.size w w') :
    Calls Tryz.prog 38 #[.slice (some ⟨bt, offt, none⟩) nt capt, .slice (some ⟨b, off, none⟩) len cap] w fun e w' => e = .returned (.bool r) ∧ Below w.heap.size w w' := by
  have hbs := bs_toList2
  have h0 : 0 < len := by omega
  have hti : 0 ≤ (t : Int) ∧ (t : Int) < (nt : Int) := by omega
  go_enter Tryz.func38, Tryz.ntmps38
  go_wp2_with (first
    | (go_at_call 61; refine hw.mono ?_; rintro e w' ⟨rfl, rfl⟩)
    | (go_at_call 34; refine hf.mono ?_; rintro e w' ⟨rfl, rfl⟩)
    | (go_at_call 62; refine hc.mono ?_; rintro e w1 ⟨rfl, hb⟩))
  go_ret
  exact ⟨rfl, hb⟩
end Go.Proofs.YtiekijfmafklfaaGreatDoor
