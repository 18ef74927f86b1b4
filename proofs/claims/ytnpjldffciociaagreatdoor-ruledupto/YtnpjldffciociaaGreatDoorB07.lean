import Derived.Test.YtnpjldffciociaaGreatDoorB06
import Derived.WalkSmall
namespace Go.Proofs.YtnpjldffciociaaGreatDoor
open Go.RowKit

theorem bcell {W w1 : World} (hb : Below W.heap.size W w1) : (∀ b o, b < W.heap.size → w1.cell? ⟨b, o, none⟩ = W.cell? ⟨b, o, none⟩) ∧ (∀ b o, b < W.heap.size → w1.frozen? ⟨b, o, none⟩ = W.frozen? ⟨b, o, none⟩) :=
  ⟨fun b o h => hb.cell (p := ⟨b, o, none⟩) h, fun b o h => hb.frozen (p := ⟨b, o, none⟩) h⟩

set_option maxRecDepth 10000 in
set_option maxHeartbeats 1000000 in
theorem ic_len (w : World) (vs : Value) (b off len cap i n : Nat) (vt : Value) (law : Bool) (_hi : i ≤ 16777216) (_hn : n ≤ 16777216) (_hlen : len ≤ 1048577) (k : Int) (hk : ¬ k = n) (hcl : Calls Tryz.prog 205 #[.slice (some ⟨b, off, none⟩) len cap, .int .i64 i] w fun e w' => e = .returned (.int .i64 k) ∧ w' = w) :
    Calls Tryz.prog 162 #[vs, .slice (some ⟨b, off, none⟩) len cap, .int .i64 i, .int .i64 n, vt, .bool law] w fun e w' => e = .returned (.bool false) ∧ w' = w := by
  have hk' : (k != (n : Int)) = true := by simpa using hk
  have hbs := bs_toList2
  go_enter Tryz.func162, Tryz.ntmps162
  go_wp2_with (go_at_call 205; with_reducible refine hcl.mono ?_; rintro e w' ⟨rfl, rfl⟩)
  all_goals
    go_ret
    exact ⟨rfl, rfl⟩
set_option maxRecDepth 10000 in
set_option maxHeartbeats 1000000 in
theorem ic_out (w : World) (vs : Value) (b off len cap i n : Nat) (vt : Value) (law : Bool) (hi : i ≤ 16777216) (hn : n ≤ 16777216) (_hlen : len ≤ 1048577) (ho : len < i + n) (hcl : Calls Tryz.prog 205 #[.slice (some ⟨b, off, none⟩) len cap, .int .i64 i] w fun e w' => e = .returned (.int .i64 n) ∧ w' = w) :
    Calls Tryz.prog 162 #[vs, .slice (some ⟨b, off, none⟩) len cap, .int .i64 i, .int .i64 n, vt, .bool law] w fun e w' => e = .returned (.bool false) ∧ w' = w := by
  have hbs := bs_toList2
  go_enter Tryz.func162, Tryz.ntmps162
  go_wp2_with (go_at_call 205; with_reducible refine hcl.mono ?_; rintro e w' ⟨rfl, rfl⟩)
  all_goals
    go_ret
    exact ⟨rfl, rfl⟩
set_option maxRecDepth 10000 in
set_option maxHeartbeats 1000000 in
theorem ic_any (w : World) (vs : Value) (b off len cap i n : Nat) (vt : Value) (law : Bool) (hi : i ≤ 16777216) (hn : n ≤ 16777216) (hlen : len ≤ 1048577) (hin : i + n ≤ len) (hilt : i < len) (hci : w.cell? ⟨b, off + i, none⟩ = some (.string (bs wAny))) (hcl : Calls Tryz.prog 205 #[.slice (some ⟨b, off, none⟩) len cap, .int .i64 i] w fun e w' => e = .returned (.int .i64 n) ∧ w' = w) :
    Calls Tryz.prog 162 #[vs, .slice (some ⟨b, off, none⟩) len cap, .int .i64 i, .int .i64 n, vt, .bool law] w fun e w' => e = .returned (.bool true) ∧ w' = w := by
  have hbs := bs_toList2
  go_enter Tryz.func162, Tryz.ntmps162
  go_wp2_with (go_at_call 205; with_reducible refine hcl.mono ?_; rintro e w' ⟨rfl, rfl⟩)
  all_goals
    go_ret
    exact ⟨rfl, rfl⟩
set_option maxRecDepth 10000 in
set_option maxHeartbeats 1000000 in
theorem ic_not (w : World) (vs : Value) (b off len cap i n : Nat) (vt : Value) (law : Bool) (hi : i ≤ 16777216) (hn : n ≤ 16777216) (hlen : len ≤ 1048577) (r : Bool) (hn1 : 1 ≤ n) (hin : i + n ≤ len) (hilt : i < len) (hci : w.cell? ⟨b, off + i, none⟩ = some (.string (bs wNot))) (hcl : Calls Tryz.prog 205 #[.slice (some ⟨b, off, none⟩) len cap, .int .i64 i] w fun e w' => e = .returned (.int .i64 n) ∧ w' = w) (hrec : Calls Tryz.prog 162 #[vs, .slice (some ⟨b, off, none⟩) len cap, .int .i64 ((i : Int) + 1), .int .i64 ((n : Int) - 1), vt, .bool law] w fun e w' => e = .returned (.bool r) ∧ Below w.heap.size w w') :
    Calls Tryz.prog 162 #[vs, .slice (some ⟨b, off, none⟩) len cap, .int .i64 i, .int .i64 n, vt, .bool law] w fun e w' => e = .returned (.bool r) ∧ Below w.heap.size w w' := by
  have hbs := bs_toList2
  go_enter Tryz.func162, Tryz.ntmps162
  go_wp2_with (first | (go_at_call 205; with_reducible refine hcl.mono ?_; rintro e w' ⟨rfl, rfl⟩) | (go_at_call 162; with_reducible refine hrec.mono ?_; rintro e w1 ⟨rfl, hb1⟩))
  all_goals
    go_ret
    exact ⟨rfl, hb1⟩
set_option maxRecDepth 10000 in
set_option maxHeartbeats 1000000 in
theorem ic_and (w : World) (vs : Value) (b off len cap i n : Nat) (vt : Value) (law : Bool) (hi : i ≤ 16777216) (hn : n ≤ 16777216) (hlen : len ≤ 1048577) (a : Nat) (x y : Bool) (ha : a + 1 ≤ n) (hin : i + n ≤ len) (hilt : i < len) (hci : w.cell? ⟨b, off + i, none⟩ = some (.string (bs wAnd))) (hcl : Calls Tryz.prog 205 #[.slice (some ⟨b, off, none⟩) len cap, .int .i64 i] w fun e w' => e = .returned (.int .i64 n) ∧ w' = w) (hcl2 : Calls Tryz.prog 205 #[.slice (some ⟨b, off, none⟩) len cap, .int .i64 ((i : Int) + 1)] w fun e w' => e = .returned (.int .i64 (a : Int)) ∧ w' = w) (hr1 : Calls Tryz.prog 162 #[vs, .slice (some ⟨b, off, none⟩) len cap, .int .i64 ((i : Int) + 1), .int .i64 (a : Int), vt, .bool law] w fun e w' => e = .returned (.bool x) ∧ Below w.heap.size w w') (hr2 : ∀ w1, Below w.heap.size w w1 → Calls Tryz.prog 162 #[vs, .slice (some ⟨b, off, none⟩) len cap, .int .i64 ((i : Int) + 1 + a), .int .i64 ((n : Int) - 1 - a), vt, .bool law] w1 fun e w' => e = .returned (.bool y) ∧ Below w1.heap.size w1 w') :
    Calls Tryz.prog 162 #[vs, .slice (some ⟨b, off, none⟩) len cap, .int .i64 i, .int .i64 n, vt, .bool law] w fun e w' => e = .returned (.bool (x && y)) ∧ Below w.heap.size w w' := by
  have hbs := bs_toList2
  go_enter Tryz.func162, Tryz.ntmps162
  go_wp2_with (first | (go_at_call 205; with_reducible refine hcl.mono ?_; rintro e w' ⟨rfl, rfl⟩) | (go_at_call 205; with_reducible refine hcl2.mono ?_; rintro e w' ⟨rfl, rfl⟩) | (go_at_call 162; with_reducible refine hr1.mono ?_; rintro e w1 ⟨rfl, hb1⟩) | (go_at_call 162; with_reducible refine (hr2 _ hb1).mono ?_; rintro e w2 ⟨rfl, hb2⟩))
  all_goals
    go_ret
    exact ⟨by cases x <;> cases y <;> simp_all, hb1.trans (hb2.mono hb1.size)⟩
set_option maxRecDepth 10000 in
set_option maxHeartbeats 1000000 in
theorem ic_or (w : World) (vs : Value) (b off len cap i n : Nat) (vt : Value) (law : Bool) (hi : i ≤ 16777216) (hn : n ≤ 16777216) (hlen : len ≤ 1048577) (a : Nat) (x y : Bool) (ha : a + 1 ≤ n) (hin : i + n ≤ len) (hilt : i < len) (hci : w.cell? ⟨b, off + i, none⟩ = some (.string (bs wOr))) (hcl : Calls Tryz.prog 205 #[.slice (some ⟨b, off, none⟩) len cap, .int .i64 i] w fun e w' => e = .returned (.int .i64 n) ∧ w' = w) (hcl2 : Calls Tryz.prog 205 #[.slice (some ⟨b, off, none⟩) len cap, .int .i64 ((i : Int) + 1)] w fun e w' => e = .returned (.int .i64 (a : Int)) ∧ w' = w) (hr1 : Calls Tryz.prog 162 #[vs, .slice (some ⟨b, off, none⟩) len cap, .int .i64 ((i : Int) + 1), .int .i64 (a : Int), vt, .bool law] w fun e w' => e = .returned (.bool x) ∧ Below w.heap.size w w') (hr2 : ∀ w1, Below w.heap.size w w1 → Calls Tryz.prog 162 #[vs, .slice (some ⟨b, off, none⟩) len cap, .int .i64 ((i : Int) + 1 + a), .int .i64 ((n : Int) - 1 - a), vt, .bool law] w1 fun e w' => e = .returned (.bool y) ∧ Below w1.heap.size w1 w') :
    Calls Tryz.prog 162 #[vs, .slice (some ⟨b, off, none⟩) len cap, .int .i64 i, .int .i64 n, vt, .bool law] w fun e w' => e = .returned (.bool (x && y)) ∧ Below w.heap.size w w' := by
  have hbs := bs_toList2
  go_enter Tryz.func162, Tryz.ntmps162
  go_wp2_with (first | (go_at_call 205; with_reducible refine hcl.mono ?_; rintro e w' ⟨rfl, rfl⟩) | (go_at_call 205; with_reducible refine hcl2.mono ?_; rintro e w' ⟨rfl, rfl⟩) | (go_at_call 162; with_reducible refine hr1.mono ?_; rintro e w1 ⟨rfl, hb1⟩) | (go_at_call 162; with_reducible refine (hr2 _ hb1).mono ?_; rintro e w2 ⟨rfl, hb2⟩))
  all_goals
    go_ret
    exact ⟨by cases x <;> cases y <;> simp_all, hb1.trans (hb2.mono hb1.size)⟩
end Go.Proofs.YtnpjldffciociaaGreatDoor
namespace Go.Proofs.YtnpjldffciociaaGreatDoor
open Go.RowKit

set_option maxRecDepth 10000 in
set_option maxHeartbeats 2000000 in
theorem ic_in (w : World) (vs : Value) (b off len cap i n : Nat) (nt capt : Nat) (law : Bool) (hi : i ≤ 16777216) (hn : n ≤ 16777216) (hlen : len ≤ 1048577) (_hnt : nt ≤ 1048577) (bt offt a : Nat) (ta : Bool) (hta : w.cell? ⟨bt, offt + a, none⟩ = some (.bool ta)) (hbt : bt < w.heap.size) (hal : a < nt) (k : Option Bool) (hin : i + n ≤ len) (hi2 : i + 2 < len) (hbw : b < w.heap.size) (x x1 x2 : List UInt8) (hci : w.cell? ⟨b, off + i, none⟩ = some (.string (bs x))) (hc1 : w.cell? ⟨b, off + (i + 1), none⟩ = some (.string (bs x1))) (hc2 : w.cell? ⟨b, off + (i + 2), none⟩ = some (.string (bs x2))) (n1 : (x == wAny) = false) (n2 : (x == wNot) = false) (n3 : (x == wAnd) = false) (n4 : (x == wOr) = false) (s1 : (x == wSame) = false) (s2 : (x == wLt) = false) (s3 : (x == wEq) = false) (hcl : Calls Tryz.prog 205 #[.slice (some ⟨b, off, none⟩) len cap, .int .i64 i] w fun e w' => e = .returned (.int .i64 n) ∧ w' = w) (ha : Calls Tryz.prog 163 #[.string (bs x1), .int .i64 nt] w fun e w' => e = .returned (.int .i64 (a : Int)) ∧ w' = w) (q : Int) (r : Bool) (hr : ∀ w1, Below w.heap.size w w1 → Calls Tryz.prog 214 #[vs, .slice (some ⟨b, off, none⟩) len cap, .int .i64 i, .bool ta] w1 fun e w' => e = .returned (.bool r) ∧ ∃ n, w' = w1.drewN n) (hb : Calls Tryz.prog 163 #[.string (bs x2), .int .i64 nt] w fun e w' => e = .returned (.int .i64 q) ∧ w' = w) (hv : Calls Tryz.prog 164 #[.string (bs x2)] w fun e w' => ValAns k e ∧ Below w.heap.size w w') :
    Calls Tryz.prog 162 #[vs, .slice (some ⟨b, off, none⟩) len cap, .int .i64 i, .int .i64 n, .slice (some ⟨bt, offt, none⟩) nt capt, .bool law] w fun e w' => e = .returned (.bool (law && r)) ∧ Below w.heap.size w w' := by
  cases law
  all_goals
    have hbs := bs_toList2
    go_enter Tryz.func162, Tryz.ntmps162
    go_wp2_with (first | (go_at_call 205; with_reducible refine hcl.mono ?_; rintro e w' ⟨rfl, rfl⟩) | (go_at_call 163; with_reducible refine ha.mono ?_; rintro e w' ⟨rfl, rfl⟩) | (go_at_call 163; with_reducible refine hb.mono ?_; rintro e w' ⟨rfl, rfl⟩) | (go_at_call 164; refine hv.mono ?_; rintro e w1 ⟨⟨nv, S, rfl⟩, hb1⟩; obtain ⟨hcc, _⟩ := bcell hb1; have hz := hb1.size; have hbb1 : b < w1.heap.size := (by omega); have hbt1 : bt < w1.heap.size := (by omega)) | (go_at_call 214; refine (hr _ (hb1.alloc hz _)).mono ?_; rintro e w2 ⟨rfl, m, rfl⟩))
    go_ret
    first
      | exact ⟨rfl, below_drewN (hb1.alloc hz _) _⟩
      | exact ⟨rfl, hb1.alloc hz _⟩
end Go.Proofs.YtnpjldffciociaaGreatDoor
