import Derived.Test.YtiekijfmafklfaaGreatDoorRefI1
import Derived.WalkSmall
namespace Go.Proofs.YtiekijfmafklfaaGreatDoor
open Go.RowKit

set_option maxRecDepth 10000 in
set_option maxHeartbeats 2000000 in
theorem ic_in (w : World) (vs : Value) (b off len cap i n : Nat) (nt capt : Nat) (law : Bool) (hi : i ≤ 16777216) (hn : n ≤ 16777216) (hlen : len ≤ 1048577) (_hnt : nt ≤ 1048577) (bt offt a : Nat) (ta : Bool) (hta : w.cell? ⟨bt, offt + a, none⟩ = some (.bool ta)) (hbt : bt < w.heap.size) (hal : a < nt) (k : Option Bool) (hin : i + n ≤ len) (hi2 : i + 2 < len) (hbw : b < w.heap.size) (x x1 x2 : List UInt8) (hci : w.cell? ⟨b, off + i, none⟩ = some (.string (bs x))) (hc1 : w.cell? ⟨b, off + (i + 1), none⟩ = some (.string (bs x1))) (hc2 : w.cell? ⟨b, off + (i + 2), none⟩ = some (.string (bs x2))) (n1 : (x == wAny) = false) (n2 : (x == wNot) = false) (n3 : (x == wAnd) = false) (n4 : (x == wOr) = false) (s1 : (x == wSame) = false) (s2 : (x == wLt) = false) (s3 : (x == wEq) = false) (hcl : Calls Tryz.prog 82 #[.slice (some ⟨b, off, none⟩) len cap, .int .i64 i] w fun e w' => e = .returned (.int .i64 n) ∧ w' = w) (ha : Calls Tryz.prog 63 #[.string (bs x1), .int .i64 nt] w fun e w' => e = .returned (.int .i64 (a : Int)) ∧ w' = w) (q : Int) (r : Bool) (hr : ∀ w1, Below w.heap.size w w1 → Calls Tryz.prog 92 #[vs, .slice (some ⟨b, off, none⟩) len cap, .int .i64 i, .bool ta] w1 fun e w' => e = .returned (.bool r) ∧ ∃ n, w' = w1.drewN n) (hb : Calls Tryz.prog 63 #[.string (bs x2), .int .i64 nt] w fun e w' => e = .returned (.int .i64 q) ∧ w' = w) (hv : Calls Tryz.prog 64 #[.string (bs x2)] w fun e w' => ValAns k e ∧ Below w.heap.size w w') :
    Calls Tryz.prog 62 #[vs, .slice (some ⟨b, off, none⟩) len cap, .int .i64 i, .int .i64 n, .slice (some ⟨bt, offt, none⟩) nt capt, .bool law] w fun e w' => e = .returned (.bool (law && r)) ∧ Below w.heap.size w w' := by
  cases law
  all_goals
    have hbs := bs_toList2
    go_enter Tryz.func62, Tryz.ntmps62
    go_wp2_with (first | (go_at_call 82; with_reducible refine hcl.mono ?_; rintro e w' ⟨rfl, rfl⟩) | (go_at_call 63; with_reducible refine ha.mono ?_; rintro e w' ⟨rfl, rfl⟩) | (go_at_call 63; with_reducible refine hb.mono ?_; rintro e w' ⟨rfl, rfl⟩) | (go_at_call 64; refine hv.mono ?_; rintro e w1 ⟨⟨nv, S, rfl⟩, hb1⟩; obtain ⟨hcc, _⟩ := bcell hb1; have hz := hb1.size; have hbb1 : b < w1.heap.size := (by omega); have hbt1 : bt < w1.heap.size := (by omega)) | (go_at_call 92; refine (hr _ (hb1.alloc hz _)).mono ?_; rintro e w2 ⟨rfl, m, rfl⟩))
    go_ret
    first
      | exact ⟨rfl, below_drewN (hb1.alloc hz _) _⟩
      | exact ⟨rfl, hb1.alloc hz _⟩
end Go.Proofs.YtiekijfmafklfaaGreatDoor
