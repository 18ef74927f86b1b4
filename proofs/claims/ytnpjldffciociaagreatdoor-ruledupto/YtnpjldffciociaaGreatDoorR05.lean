import Derived.Test.YtnpjldffciociaaGreatDoorR04
namespace Go.Proofs.YtnpjldffciociaaGreatDoor
open Go.RowKit

set_option maxRecDepth 10000 in
set_option maxHeartbeats 1000000 in
theorem ru_none (v vw : Value) (x1 : List UInt8) (w : World)
    (hw : Calls Tryz.prog 161 #[vw, .int .i64 1] w fun e w' => e = .returned (.string (bs x1)) ∧ w' = w)
    (hf : Calls Tryz.prog 105 #[v, .string (bs x1)] w fun e w' => e = .returned (.int .i64 (-1)) ∧ w' = w) :
    Calls Tryz.prog 110 #[v, vw] w fun e w' => e = .returned (.bool false) ∧ w' = w := by
  go_enter Tryz.func110, Tryz.ntmps110
  go_wp2_with (first
    | (go_at_call 161; refine hw.mono ?_; rintro e w' ⟨rfl, rfl⟩)
    | (go_at_call 105; refine hf.mono ?_; rintro e w' ⟨rfl, rfl⟩))
  go_ret
  exact ⟨rfl, rfl⟩
set_option maxRecDepth 10000 in
set_option maxHeartbeats 1000000 in
theorem ru_else (b off len cap bt offt nt capt t : Nat) (x0 x1 : List UInt8) (w : World) (h1 : 1 < len) (hlen : len ≤ 1048577) (n1 : (x0 == wAllow) = false) (n2 : (x0 == wMask) = false)
    (hc0 : w.cell? ⟨b, off, none⟩ = some (.string (bs x0)))
    (hw : Calls Tryz.prog 161 #[.slice (some ⟨b, off, none⟩) len cap, .int .i64 1] w fun e w' => e = .returned (.string (bs x1)) ∧ w' = w)
    (hf : Calls Tryz.prog 105 #[.slice (some ⟨bt, offt, none⟩) nt capt, .string (bs x1)] w fun e w' => e = .returned (.int .i64 t) ∧ w' = w) :
    Calls Tryz.prog 110 #[.slice (some ⟨bt, offt, none⟩) nt capt, .slice (some ⟨b, off, none⟩) len cap] w fun e w' => e = .returned (.bool false) ∧ w' = w := by
  have hbs := bs_toList2
  have h0 : 0 < len := by omega
  go_enter Tryz.func110, Tryz.ntmps110
  go_wp2_with (first
    | (go_at_call 161; refine hw.mono ?_; rintro e w' ⟨rfl, rfl⟩)
    | (go_at_call 105; refine hf.mono ?_; rintro e w' ⟨rfl, rfl⟩))
  go_ret
  exact ⟨rfl, rfl⟩
set_option maxRecDepth 10000 in
set_option maxHeartbeats 1000000 in
theorem ru_allow (b off len cap bt offt nt capt t : Nat) (tv : Value) (r : Bool) (x1 : List UInt8) (w : World) (h1 : 1 < len) (hlen : len ≤ 1048577) (ht : t < nt) (_hnt : nt ≤ 1048577)
    (hc0 : w.cell? ⟨b, off, none⟩ = some (.string (bs wAllow))) (hct : w.cell? ⟨bt, offt + t * 2 + 1, none⟩ = some tv)
    (hw : Calls Tryz.prog 161 #[.slice (some ⟨b, off, none⟩) len cap, .int .i64 1] w fun e w' => e = .returned (.string (bs x1)) ∧ w' = w)
    (hf : Calls Tryz.prog 105 #[.slice (some ⟨bt, offt, none⟩) nt capt, .string (bs x1)] w fun e w' => e = .returned (.int .i64 t) ∧ w' = w)
    (hc : Calls Tryz.prog 162 #[.slice (some ⟨bt, offt, none⟩) nt capt, .slice (some ⟨b, off, none⟩) len cap, .int .i64 2, .int .i64 ((len : Int) - 2), tv, .bool true] w fun e w' => e = .returned (.bool r) ∧ Below w.heap.size w w') :
    Calls Tryz.prog 110 #[.slice (some ⟨bt, offt, none⟩) nt capt, .slice (some ⟨b, off, none⟩) len cap] w fun e w' => e = .returned (.bool r) ∧ Below w.heap.size w w' := by
  have hbs := bs_toList2
  have h0 : 0 < len := by omega
  have hti : 0 ≤ (t : Int) ∧ (t : Int) < (nt : Int) := by omega
  go_enter Tryz.func110, Tryz.ntmps110
  go_wp2_with (first
    | (go_at_call 161; refine hw.mono ?_; rintro e w' ⟨rfl, rfl⟩)
    | (go_at_call 105; refine hf.mono ?_; rintro e w' ⟨rfl, rfl⟩)
    | (go_at_call 162; refine hc.mono ?_; rintro e w1 ⟨rfl, hb⟩))
  go_ret
  exact ⟨rfl, hb⟩
end Go.Proofs.YtnpjldffciociaaGreatDoor
namespace Go.Proofs.YtnpjldffciociaaGreatDoor
open Go.RowKit

set_option maxRecDepth 10000 in
set_option maxHeartbeats 2000000 in
theorem ru_mask_nocol (b off len cap bt offt nt capt t n capn : Nat) (at_ : Option Addr) (kt ko : Bool) (x1 x2 x3 : List UInt8) (w : World) (h1 : 1 < len) (hlen : len ≤ 1048577) (ht : t < nt) (_hnt : nt ≤ 1048577) (_hn : n ≤ 1048577)
    (hc0 : w.cell? ⟨b, off, none⟩ = some (.string (bs wMask))) (hct : w.cell? ⟨bt, offt + t * 2 + 1, none⟩ = some (.slice at_ n capn)) (hbt : bt < w.heap.size)
    (hw : Calls Tryz.prog 161 #[.slice (some ⟨b, off, none⟩) len cap, .int .i64 1] w fun e w' => e = .returned (.string (bs x1)) ∧ w' = w)
    (hw2 : ∀ m, Calls Tryz.prog 161 #[.slice (some ⟨b, off, none⟩) len cap, .int .i64 2] (w.drewN m) fun e w' => e = .returned (.string (bs x2)) ∧ w' = w.drewN m)
    (hw3 : ∀ m, Calls Tryz.prog 161 #[.slice (some ⟨b, off, none⟩) len cap, .int .i64 3] (w.drewN m) fun e w' => e = .returned (.string (bs x3)) ∧ w' = w.drewN m)
    (hf : Calls Tryz.prog 105 #[.slice (some ⟨bt, offt, none⟩) nt capt, .string (bs x1)] w fun e w' => e = .returned (.int .i64 t) ∧ w' = w)
    (hcol : ∀ m, Calls Tryz.prog 163 #[.string (bs x2), .int .i64 n] (w.drewN m) fun e w' => e = .returned (.int .i64 (-1)) ∧ w' = w.drewN m)
    (hv : ∀ m, Calls Tryz.prog 164 #[.string (bs x3)] (w.drewN m) fun e w' => (∃ nv S, e = .returned (.tuple #[.agg #[.bool kt, .int .i64 nv, .string S], .bool ko])) ∧ Below w.heap.size w w') :
    Calls Tryz.prog 110 #[.slice (some ⟨bt, offt, none⟩) nt capt, .slice (some ⟨b, off, none⟩) len cap] w fun e w' => e = .returned (.bool false) ∧ Below w.heap.size w w' := by
  have hbs := bs_toList2
  have h0 : 0 < len := by omega
  have hti : 0 ≤ (t : Int) ∧ (t : Int) < (nt : Int) := by omega
  go_enter Tryz.func110, Tryz.ntmps110
  go_wp2_with (first
    | (go_at_call 161; with_reducible refine hw.mono ?_; rintro e w' ⟨rfl, rfl⟩)
    | (go_at_call 105; refine hf.mono ?_; rintro e w' ⟨rfl, rfl⟩))
  go_quiet (first | (go_at_call 161; exact quiet_c hw2 _) | (go_at_call 161; exact quiet_d hw2 _ _) | (go_at_call 163; exact quiet_c hcol _) | (go_at_call 163; exact quiet_d hcol _ _))
  go_wp2_with (first
    | (go_at_call 161; refine (hw3 _).mono ?_; rintro e w' ⟨rfl, rfl⟩)
    | (go_at_call 164; refine (hv _).mono ?_; rintro e w1 ⟨⟨nv, S, rfl⟩, hb1⟩; have hz := hb1.size))
  clear hw hw2 hw3 hf hcol hv hc0 hct
  go_quiet (fail)
  go_wp2
  go_ret
  exact ⟨rfl, below_drewN (hb1.alloc hz _) _⟩
set_option maxRecDepth 10000 in
set_option maxHeartbeats 2000000 in
theorem ru_mask_noval (b off len cap bt offt nt capt t n capn : Nat) (at_ : Option Addr) (c : Nat) (kt : Bool) (x1 x2 x3 : List UInt8) (w : World) (h1 : 1 < len) (hlen : len ≤ 1048577) (ht : t < nt) (_hnt : nt ≤ 1048577) (_hn : n ≤ 1048577) (_hcn : c < n)
    (hc0 : w.cell? ⟨b, off, none⟩ = some (.string (bs wMask))) (hct : w.cell? ⟨bt, offt + t * 2 + 1, none⟩ = some (.slice at_ n capn)) (hbt : bt < w.heap.size)
    (hw : Calls Tryz.prog 161 #[.slice (some ⟨b, off, none⟩) len cap, .int .i64 1] w fun e w' => e = .returned (.string (bs x1)) ∧ w' = w)
    (hw2 : ∀ m, Calls Tryz.prog 161 #[.slice (some ⟨b, off, none⟩) len cap, .int .i64 2] (w.drewN m) fun e w' => e = .returned (.string (bs x2)) ∧ w' = w.drewN m)
    (hw3 : ∀ m, Calls Tryz.prog 161 #[.slice (some ⟨b, off, none⟩) len cap, .int .i64 3] (w.drewN m) fun e w' => e = .returned (.string (bs x3)) ∧ w' = w.drewN m)
    (hf : Calls Tryz.prog 105 #[.slice (some ⟨bt, offt, none⟩) nt capt, .string (bs x1)] w fun e w' => e = .returned (.int .i64 t) ∧ w' = w)
    (hcol : ∀ m, Calls Tryz.prog 163 #[.string (bs x2), .int .i64 n] (w.drewN m) fun e w' => e = .returned (.int .i64 (c : Int)) ∧ w' = w.drewN m)
    (hv : ∀ m, Calls Tryz.prog 164 #[.string (bs x3)] (w.drewN m) fun e w' => (∃ nv S, e = .returned (.tuple #[.agg #[.bool kt, .int .i64 nv, .string S], .bool false])) ∧ Below w.heap.size w w') :
    Calls Tryz.prog 110 #[.slice (some ⟨bt, offt, none⟩) nt capt, .slice (some ⟨b, off, none⟩) len cap] w fun e w' => e = .returned (.bool false) ∧ Below w.heap.size w w' := by
  have hbs := bs_toList2
  have h0 : 0 < len := by omega
  have hti : 0 ≤ (t : Int) ∧ (t : Int) < (nt : Int) := by omega
  go_enter Tryz.func110, Tryz.ntmps110
  go_wp2_with (first
    | (go_at_call 161; with_reducible refine hw.mono ?_; rintro e w' ⟨rfl, rfl⟩)
    | (go_at_call 105; refine hf.mono ?_; rintro e w' ⟨rfl, rfl⟩))
  go_quiet (first | (go_at_call 161; exact quiet_c hw2 _) | (go_at_call 161; exact quiet_d hw2 _ _) | (go_at_call 163; exact quiet_c hcol _) | (go_at_call 163; exact quiet_d hcol _ _))
  go_wp2_with (first
    | (go_at_call 161; refine (hw3 _).mono ?_; rintro e w' ⟨rfl, rfl⟩)
    | (go_at_call 164; refine (hv _).mono ?_; rintro e w1 ⟨⟨nv, S, rfl⟩, hb1⟩; have hz := hb1.size))
  clear hw hw2 hw3 hf hcol hv hc0 hct
  have hci : decide ((c : Int) < 0) = false := decide_eq_false (by omega)
  go_quiet (fail)
  go_wp2
  go_ret
  exact ⟨rfl, below_drewN (hb1.alloc hz _) _⟩
end Go.Proofs.YtnpjldffciociaaGreatDoor
