import Derived.Test.YtnpjldffciociaaGreatDoorB07
import Derived.WalkSmall
namespace Go.Proofs.YtnpjldffciociaaGreatDoor
open Go.RowKit

abbrev wMe : List UInt8 := [109, 101]
set_option maxRecDepth 10000 in
set_option maxHeartbeats 2000000 in
theorem ic_noa (w : World) (vs : Value) (b off len cap i n : Nat) (at_ : Option Addr) (nt capt : Nat) (law : Bool) (hi : i ≤ 16777216) (hn : n ≤ 16777216) (hlen : len ≤ 1048577) (_hnt : nt ≤ 1048577) (hin : i + n ≤ len) (hi2 : i + 2 < len) (hbw : b < w.heap.size) (x x1 x2 : List UInt8) (hci : w.cell? ⟨b, off + i, none⟩ = some (.string (bs x))) (hc1 : w.cell? ⟨b, off + (i + 1), none⟩ = some (.string (bs x1))) (hc2 : w.cell? ⟨b, off + (i + 2), none⟩ = some (.string (bs x2))) (n1 : (x == wAny) = false) (n2 : (x == wNot) = false) (n3 : (x == wAnd) = false) (n4 : (x == wOr) = false) (hcl : Calls Tryz.prog 205 #[.slice (some ⟨b, off, none⟩) len cap, .int .i64 i] w fun e w' => e = .returned (.int .i64 n) ∧ w' = w) (ha : Calls Tryz.prog 163 #[.string (bs x1), .int .i64 nt] w fun e w' => e = .returned (.int .i64 (-1)) ∧ w' = w) :
    Calls Tryz.prog 162 #[vs, .slice (some ⟨b, off, none⟩) len cap, .int .i64 i, .int .i64 n, .slice at_ nt capt, .bool law] w fun e w' => e = .returned (.bool false) ∧ w' = w := by
  have hbs := bs_toList2
  go_enter Tryz.func162, Tryz.ntmps162
  go_wp2_with (first | (go_at_call 205; with_reducible refine hcl.mono ?_; rintro e w' ⟨rfl, rfl⟩) | (go_at_call 163; with_reducible refine ha.mono ?_; rintro e w' ⟨rfl, rfl⟩))
  all_goals
    go_ret
    exact ⟨rfl, rfl⟩
set_option maxRecDepth 10000 in
set_option maxHeartbeats 2000000 in
theorem ic_same_no (w : World) (vs : Value) (b off len cap i n : Nat) (nt capt : Nat) (law : Bool) (hi : i ≤ 16777216) (hn : n ≤ 16777216) (hlen : len ≤ 1048577) (_hnt : nt ≤ 1048577) (bt offt a : Nat) (ta : Bool) (hta : w.cell? ⟨bt, offt + a, none⟩ = some (.bool ta)) (hbt : bt < w.heap.size) (_hal : a < nt) (k : Option Bool) (hin : i + n ≤ len) (hi2 : i + 2 < len) (hbw : b < w.heap.size) (x x1 x2 : List UInt8) (hci : w.cell? ⟨b, off + i, none⟩ = some (.string (bs x))) (hc1 : w.cell? ⟨b, off + (i + 1), none⟩ = some (.string (bs x1))) (hc2 : w.cell? ⟨b, off + (i + 2), none⟩ = some (.string (bs x2))) (n1 : (x == wAny) = false) (n2 : (x == wNot) = false) (n3 : (x == wAnd) = false) (n4 : (x == wOr) = false) (s1 : (x == wSame) = true) (_s2 : (x == wLt) = false) (_s3 : (x == wEq) = false) (hcl : Calls Tryz.prog 205 #[.slice (some ⟨b, off, none⟩) len cap, .int .i64 i] w fun e w' => e = .returned (.int .i64 n) ∧ w' = w) (ha : Calls Tryz.prog 163 #[.string (bs x1), .int .i64 nt] w fun e w' => e = .returned (.int .i64 (a : Int)) ∧ w' = w)   (q : Int) (hq : q < 0) (hb : Calls Tryz.prog 163 #[.string (bs x2), .int .i64 nt] w fun e w' => e = .returned (.int .i64 q) ∧ w' = w) (hv : Calls Tryz.prog 164 #[.string (bs x2)] w fun e w' => ValAns k e ∧ Below w.heap.size w w') :
    Calls Tryz.prog 162 #[vs, .slice (some ⟨b, off, none⟩) len cap, .int .i64 i, .int .i64 n, .slice (some ⟨bt, offt, none⟩) nt capt, .bool law] w fun e w' => e = .returned (.bool false) ∧ Below w.heap.size w w' := by
  have hbs := bs_toList2
  go_enter Tryz.func162, Tryz.ntmps162
  have hq' : decide (0 ≤ q) = false := by simp; omega
  go_wp2_with (first | (go_at_call 205; with_reducible refine hcl.mono ?_; rintro e w' ⟨rfl, rfl⟩) | (go_at_call 163; with_reducible refine ha.mono ?_; rintro e w' ⟨rfl, rfl⟩) | (go_at_call 163; with_reducible refine hb.mono ?_; rintro e w' ⟨rfl, rfl⟩) | (go_at_call 164; refine hv.mono ?_; rintro e w1 ⟨⟨nv, S, rfl⟩, hb1⟩; obtain ⟨hcc, _⟩ := bcell hb1; have hz := hb1.size; have hbb1 : b < w1.heap.size := (by omega); have hbt1 : bt < w1.heap.size := (by omega)))
  go_quiet (fail)
  go_wp2
  go_ret
  exact ⟨rfl, below_drewN (hb1.alloc hz _) _⟩
set_option maxRecDepth 10000 in
set_option maxHeartbeats 2000000 in
theorem ic_same_yes (w : World) (vs : Value) (b off len cap i n : Nat) (nt capt : Nat) (law : Bool) (hi : i ≤ 16777216) (hn : n ≤ 16777216) (hlen : len ≤ 1048577) (_hnt : nt ≤ 1048577) (bt offt a : Nat) (ta : Bool) (hta : w.cell? ⟨bt, offt + a, none⟩ = some (.bool ta)) (hbt : bt < w.heap.size) (hal : a < nt) (k : Option Bool) (hin : i + n ≤ len) (hi2 : i + 2 < len) (hbw : b < w.heap.size) (x x1 x2 : List UInt8) (hci : w.cell? ⟨b, off + i, none⟩ = some (.string (bs x))) (hc1 : w.cell? ⟨b, off + (i + 1), none⟩ = some (.string (bs x1))) (hc2 : w.cell? ⟨b, off + (i + 2), none⟩ = some (.string (bs x2))) (n1 : (x == wAny) = false) (n2 : (x == wNot) = false) (n3 : (x == wAnd) = false) (n4 : (x == wOr) = false) (s1 : (x == wSame) = true) (_s2 : (x == wLt) = false) (_s3 : (x == wEq) = false) (hcl : Calls Tryz.prog 205 #[.slice (some ⟨b, off, none⟩) len cap, .int .i64 i] w fun e w' => e = .returned (.int .i64 n) ∧ w' = w) (ha : Calls Tryz.prog 163 #[.string (bs x1), .int .i64 nt] w fun e w' => e = .returned (.int .i64 (a : Int)) ∧ w' = w) (q : Nat) (tb : Bool) (hql : q < nt) (htb : w.cell? ⟨bt, offt + q, none⟩ = some (.bool tb)) (hb : Calls Tryz.prog 163 #[.string (bs x2), .int .i64 nt] w fun e w' => e = .returned (.int .i64 (q : Int)) ∧ w' = w) (hv : Calls Tryz.prog 164 #[.string (bs x2)] w fun e w' => ValAns k e ∧ Below w.heap.size w w') :
    Calls Tryz.prog 162 #[vs, .slice (some ⟨b, off, none⟩) len cap, .int .i64 i, .int .i64 n, .slice (some ⟨bt, offt, none⟩) nt capt, .bool law] w fun e w' => e = .returned (.bool (ta == tb)) ∧ Below w.heap.size w w' := by
  have hbs := bs_toList2
  go_enter Tryz.func162, Tryz.ntmps162
  have hali : (a : Int) < (nt : Int) := by omega
  have hqli : (q : Int) < (nt : Int) := by omega
  have hq0 : (0 : Int) ≤ (q : Int) := by omega
  go_wp2_with (first | (go_at_call 205; with_reducible refine hcl.mono ?_; rintro e w' ⟨rfl, rfl⟩) | (go_at_call 163; with_reducible refine ha.mono ?_; rintro e w' ⟨rfl, rfl⟩) | (go_at_call 163; with_reducible refine hb.mono ?_; rintro e w' ⟨rfl, rfl⟩) | (go_at_call 164; refine hv.mono ?_; rintro e w1 ⟨⟨nv, S, rfl⟩, hb1⟩; obtain ⟨hcc, _⟩ := bcell hb1; have hz := hb1.size; have hbb1 : b < w1.heap.size := (by omega); have hbt1 : bt < w1.heap.size := (by omega)))
  go_quiet (fail)
  go_wp2
  go_ret
  exact ⟨rfl, below_drewN (hb1.alloc hz _) _⟩
set_option maxRecDepth 10000 in
set_option maxHeartbeats 2000000 in
theorem ic_lt (w : World) (vs : Value) (b off len cap i n : Nat) (nt capt : Nat) (law : Bool) (hi : i ≤ 16777216) (hn : n ≤ 16777216) (hlen : len ≤ 1048577) (_hnt : nt ≤ 1048577) (bt offt a : Nat) (ta : Bool) (hta : w.cell? ⟨bt, offt + a, none⟩ = some (.bool ta)) (hbt : bt < w.heap.size) (hal : a < nt) (k : Option Bool) (hin : i + n ≤ len) (hi2 : i + 2 < len) (hbw : b < w.heap.size) (x x1 x2 : List UInt8) (hci : w.cell? ⟨b, off + i, none⟩ = some (.string (bs x))) (hc1 : w.cell? ⟨b, off + (i + 1), none⟩ = some (.string (bs x1))) (hc2 : w.cell? ⟨b, off + (i + 2), none⟩ = some (.string (bs x2))) (n1 : (x == wAny) = false) (n2 : (x == wNot) = false) (n3 : (x == wAnd) = false) (n4 : (x == wOr) = false) (s1 : (x == wSame) = false) (s2 : (x == wLt) = true) (_s3 : (x == wEq) = false) (hcl : Calls Tryz.prog 205 #[.slice (some ⟨b, off, none⟩) len cap, .int .i64 i] w fun e w' => e = .returned (.int .i64 n) ∧ w' = w) (ha : Calls Tryz.prog 163 #[.string (bs x1), .int .i64 nt] w fun e w' => e = .returned (.int .i64 (a : Int)) ∧ w' = w) (q : Int) (hb : Calls Tryz.prog 163 #[.string (bs x2), .int .i64 nt] w fun e w' => e = .returned (.int .i64 q) ∧ w' = w) (hv : Calls Tryz.prog 164 #[.string (bs x2)] w fun e w' => ValAns k e ∧ Below w.heap.size w w') :
    Calls Tryz.prog 162 #[vs, .slice (some ⟨b, off, none⟩) len cap, .int .i64 i, .int .i64 n, .slice (some ⟨bt, offt, none⟩) nt capt, .bool law] w fun e w' => e = .returned (.bool ((k == some false) && !ta)) ∧ Below w.heap.size w w' := by
  rcases k with _ | k
  all_goals try cases k
  all_goals cases ta
  all_goals
    have hbs := bs_toList2
    go_enter Tryz.func162, Tryz.ntmps162
    go_wp2_with (first | (go_at_call 205; with_reducible refine hcl.mono ?_; rintro e w' ⟨rfl, rfl⟩) | (go_at_call 163; with_reducible refine ha.mono ?_; rintro e w' ⟨rfl, rfl⟩) | (go_at_call 163; with_reducible refine hb.mono ?_; rintro e w' ⟨rfl, rfl⟩) | (go_at_call 164; refine hv.mono ?_; rintro e w1 ⟨⟨nv, S, rfl⟩, hb1⟩; obtain ⟨hcc, _⟩ := bcell hb1; have hz := hb1.size; have hbb1 : b < w1.heap.size := (by omega); have hbt1 : bt < w1.heap.size := (by omega)))
    go_ret
    exact ⟨rfl, by go_grown⟩
set_option maxRecDepth 10000 in
set_option maxHeartbeats 2000000 in
theorem ic_eq (w : World) (vs : Value) (b off len cap i n : Nat) (nt capt : Nat) (law : Bool) (hi : i ≤ 16777216) (hn : n ≤ 16777216) (hlen : len ≤ 1048577) (_hnt : nt ≤ 1048577) (bt offt a : Nat) (ta : Bool) (hta : w.cell? ⟨bt, offt + a, none⟩ = some (.bool ta)) (hbt : bt < w.heap.size) (hal : a < nt) (k : Option Bool) (hin : i + n ≤ len) (hi2 : i + 2 < len) (hbw : b < w.heap.size) (x x1 x2 : List UInt8) (hci : w.cell? ⟨b, off + i, none⟩ = some (.string (bs x))) (hc1 : w.cell? ⟨b, off + (i + 1), none⟩ = some (.string (bs x1))) (hc2 : w.cell? ⟨b, off + (i + 2), none⟩ = some (.string (bs x2))) (n1 : (x == wAny) = false) (n2 : (x == wNot) = false) (n3 : (x == wAnd) = false) (n4 : (x == wOr) = false) (s1 : (x == wSame) = false) (s2 : (x == wLt) = false) (s3 : (x == wEq) = true) (hcl : Calls Tryz.prog 205 #[.slice (some ⟨b, off, none⟩) len cap, .int .i64 i] w fun e w' => e = .returned (.int .i64 n) ∧ w' = w) (ha : Calls Tryz.prog 163 #[.string (bs x1), .int .i64 nt] w fun e w' => e = .returned (.int .i64 (a : Int)) ∧ w' = w) (q : Int) (hb : Calls Tryz.prog 163 #[.string (bs x2), .int .i64 nt] w fun e w' => e = .returned (.int .i64 q) ∧ w' = w) (hv : Calls Tryz.prog 164 #[.string (bs x2)] w fun e w' => ValAns k e ∧ Below w.heap.size w w') :
    Calls Tryz.prog 162 #[vs, .slice (some ⟨b, off, none⟩) len cap, .int .i64 i, .int .i64 n, .slice (some ⟨bt, offt, none⟩) nt capt, .bool law] w fun e w' => e = .returned (.bool ((k == some ta) || (x2 == wMe && ta))) ∧ Below w.heap.size w w' := by
  rcases k with _ | k
  all_goals try cases k
  all_goals cases ta
  all_goals cases hme : (x2 == wMe)
  all_goals
    have hbs := bs_toList2
    have hali : (a : Int) < (nt : Int) := by omega
    have hi2i : (i : Int) + 2 < (len : Int) := by omega
    go_enter Tryz.func162, Tryz.ntmps162
    go_wp2_with (first | (go_at_call 205; with_reducible refine hcl.mono ?_; rintro e w' ⟨rfl, rfl⟩) | (go_at_call 163; with_reducible refine ha.mono ?_; rintro e w' ⟨rfl, rfl⟩) | (go_at_call 163; with_reducible refine hb.mono ?_; rintro e w' ⟨rfl, rfl⟩) | (go_at_call 164; refine hv.mono ?_; rintro e w1 ⟨⟨nv, S, rfl⟩, hb1⟩; obtain ⟨hcc, _⟩ := bcell hb1; have hz := hb1.size; have hbb1 : b < w1.heap.size := (by omega); have hbt1 : bt < w1.heap.size := (by omega)))
    go_quiet (fail)
    go_wp2
    go_ret
    exact ⟨rfl, below_drewN (hb1.alloc hz _) _⟩
end Go.Proofs.YtnpjldffciociaaGreatDoor
