import Derived.Test.YtnpjldffciociaaGreatDoorC04
import Derived.WalkSmall
import Derived.Deep.RegionHeld3
import Derived.Deep.AppendLies
import Derived.Deep.RegionLaw
import Derived.BigRegion
import Derived.Deep.DrawnRows
namespace Go.Proofs.YtnpjldffciociaaGreatDoor
open Go.RowKit
attribute [local go_sem ↓] Go.wp_at_zero Go.wp_at_succ

set_option maxRecDepth 10000 in
set_option maxHeartbeats 2000000 in
theorem ty_sum_no2 (w : World) (vs : Value) (b off len cap i : Nat) (at_ : Option Addr) (na capa : Nat) (vb : Value) (hi : i ≤ 1000) (_hlen : len ≤ 60) (_hna : na ≤ 9) (hi2 : i + 2 < len) (_hbw : b < w.heap.size) (hci : w.cell? ⟨b, off + i, none⟩ = some (.string (bs wSum))) (x1 x2 : List UInt8) (hc1 : w.cell? ⟨b, off + (i + 1), none⟩ = some (.string (bs x1))) (hc2 : w.cell? ⟨b, off + (i + 2), none⟩ = some (.string (bs x2))) (cs : List Nat) (ys : List Bool) (hcl : cs.length ≤ 1048577) (hp : Calls Tryz.prog 163 #[.string (bs x1), .int .i64 na] w fun e w' => e = .returned (.int .i64 (-1)) ∧ w' = w) (hcs : Calls Tryz.prog 206 #[.string (bs x2), .int .i64 na] w fun e w' => ∃ u, e = .returned (.tuple #[u, .bool true]) ∧ Reads w' u (cs.map i64v) ∧ Below w.heap.size w w') (hso : ∀ w1 u, Below w.heap.size w w1 → Reads w1 u (cs.map i64v) → Calls Tryz.prog 207 #[.slice at_ na capa, u] w1 fun e w' => ∃ v', e = .returned v' ∧ w'.ownsRow w1.heap.size 4 1 v' cs.length (ys.map Value.bool) ∧ Below w1.heap.size w1 w') :
    Calls Tryz.prog 155 #[vs, .slice (some ⟨b, off, none⟩) len cap, .int .i64 i, .slice at_ na capa, vb] w fun e w' => (∃ v, e = .returned (.tuple #[v, .bool false])) ∧ Below w.heap.size w w' := by
  obtain ⟨i0, hi0, hz0, hz1, hz2⟩ := info_parts Tryz.infoBool
  have hbs := bs_toList2
  go_enter Tryz.func155, Tryz.ntmps155
  go_wp2_with (first | (go_at_call 163; with_reducible refine hp.mono ?_; rintro e w' ⟨rfl, hw⟩; obtain rfl := hw.symm) | (go_at_call 206; refine hcs.mono ?_; rintro e w1 ⟨u, rfl, hru, hb1⟩))
  clear hp hcs hc1 hc2 hci hi _hlen hi2 _hbw hbs
  refine wp_region_any (by kernel_rfl) ?_
  change wpAny _ _ _ _ _ _ _ (World.drew _)
  refine wpAny_take (i := 0) (v := .slice at_ na capa) rfl (by kernel_rfl) (by kernel_rfl) (by kernel_rfl) (fun _ _ _ h => h) (Or.inl ⟨by rfl, by intro w; go_simp⟩) ?_
  try simp only [Act.put, List.setIfInBounds_toArray]
  refine wpAny_take (i := 1) (v := u) rfl (by kernel_rfl) (by kernel_rfl) (by kernel_rfl) (fun _ _ _ h => h) (Or.inl ⟨by rfl, by intro w; go_simp⟩) ?_
  try simp only [Act.put]
  refine wpAny_take (i := 5) (v := .bool true) rfl (by kernel_rfl) (by kernel_rfl) (by kernel_rfl) (fun _ _ _ h => h) (Or.inl ⟨by rfl, by intro w; go_simp⟩) ?_
  try simp only [Act.put]
  refine wpAny_ready (rs := [2, 3]) (by kernel_rfl) (by simp) ?_
  refine AllReady.cons rfl (fun K hK => ?_) ?_
  · refine step_wanted (by rfl) ?_
    go_simp
    refine (hso _ _ hb1.drew (hru.below ((Below.refl _ _).drew))).mono ?_
    rintro e w2 ⟨v2, rfl, hown2, hb2⟩
    try go_simp
    refine hK _ _ ?_; clear hK K
    refine wpAny_ready (rs := [3]) (by kernel_rfl) (by simp) ?_
    refine AllReady.cons rfl (fun K hK => ?_) AllReady.nil
    go_simp
    refine hK _ _ ?_; clear hK K
    refine wpAny_ready (rs := [4]) (by kernel_rfl) (by simp) ?_
    refine AllReady.cons rfl (fun K hK => ?_) AllReady.nil
    refine step_append_lies _ (by rfl) _ _ _ (by rfl) _ 4 i0 _ 1 1 Tryz.underlying117 hi0 hz0 hz1 hz2 rfl (by omega) v2 cs.length _ (by rfl) (hown2.alloc _) ⟨w2.heap.size, 0, none⟩ 1 1 [.bool false] (by rfl) (by rfl) (news_one (by simp)) (by simp [Value.oneCell']) (by omega) (by unfold maxLen; omega) (by omega) (by have := hb2.size; simp at this ⊢; omega) (w2.heap.size + 1) (by simp) ?_
    intro gg cap3 w3 hown3 hgrow hat hlt
    try go_simp
    refine hK _ _ ?_; clear hK K
    refine wpAny_take (i := 6) (v := .bool true) rfl (by kernel_rfl) (by kernel_rfl) (by kernel_rfl) (fun _ _ _ h => h) (Or.inl ⟨by rfl, by intro w; go_simp⟩) ?_
    try simp only [Act.put, List.setIfInBounds_toArray]
    refine wpAny_take (i := 7) (v := .int .i64 (-1)) rfl (by kernel_rfl) (by kernel_rfl) (by kernel_rfl) (fun _ _ _ h => h) (Or.inl ⟨by rfl, by intro w; go_simp⟩) ?_
    try simp only [Act.put]
    refine wpAny_take (i := 8) (v := .bool false) rfl (by kernel_rfl) (by kernel_rfl) (by kernel_rfl) (fun _ _ _ h => h) (Or.inl ⟨by rfl, by intro w; go_simp⟩) ?_
    try simp only [Act.put]
    refine wpAny_take (i := 9) (v := .bool false) rfl (by kernel_rfl) (by kernel_rfl) (by kernel_rfl) (fun _ _ _ h => h) (Or.inl ⟨by rfl, by intro w; go_simp⟩) ?_
    try simp only [Act.put]
    refine wpAny_take (i := 10) (v := .bool false) rfl (by kernel_rfl) (by kernel_rfl) (by kernel_rfl) (fun _ _ _ h => h) (Or.inl ⟨by rfl, by intro w; go_simp⟩) ?_
    try simp only [Act.put]
    refine wpAny_take (i := 11) (v := undef) rfl (by kernel_rfl) (by kernel_rfl) (by kernel_rfl) (fun _ _ _ h => h) (Or.inr ⟨by kernel_rfl, rfl⟩) ?_
    try simp only [Act.put]
    refine wpAny_take (i := 12) (v := undef) rfl (by kernel_rfl) (by kernel_rfl) (by kernel_rfl) (fun _ _ _ h => h) (Or.inr ⟨by kernel_rfl, rfl⟩) ?_
    try simp only [Act.put]
    refine wpAny_take (i := 13) (v := undef) rfl (by kernel_rfl) (by kernel_rfl) (by kernel_rfl) (fun _ _ _ h => h) (Or.inr ⟨by kernel_rfl, rfl⟩) ?_
    try simp only [Act.put]
    refine wpAny_take (i := 14) (v := undef) rfl (by kernel_rfl) (by kernel_rfl) (by kernel_rfl) (fun _ _ _ h => h) (Or.inr ⟨by kernel_rfl, rfl⟩) ?_
    try simp only [Act.put]
    refine wpAny_take (i := 15) (v := undef) rfl (by kernel_rfl) (by kernel_rfl) (by kernel_rfl) (fun _ _ _ h => h) (Or.inr ⟨by kernel_rfl, rfl⟩) ?_
    try simp only [Act.put]
    refine wpAny_take (i := 16) (v := .bool false) rfl (by kernel_rfl) (by kernel_rfl) (by kernel_rfl) (fun _ _ _ h => h) (Or.inl ⟨by rfl, by intro w; go_simp⟩) ?_
    try simp only [Act.put]
    refine wpAny_ready (rs := [17]) (by kernel_rfl) (by simp) ?_
    refine AllReady.cons rfl (fun K hK => ?_) AllReady.nil
    go_simp
    refine hK _ _ ?_; clear hK K
    refine wpAny_ready (rs := [18]) (by kernel_rfl) (by simp) ?_
    refine AllReady.cons rfl (fun K hK => ?_) AllReady.nil
    go_simp
    refine hK _ _ ?_; clear hK K
    refine wpAny_done (by kernel_rfl) ?_ _
    go_wp2
    go_ret2
    exact ⟨⟨_, rfl⟩, belA hb1 hb2 hown2 hgrow⟩
  · refine AllReady.cons rfl (fun K hK => ?_) AllReady.nil
    go_simp
    refine hK _ _ ?_; clear hK K
    refine wpAny_ready (rs := [2]) (by kernel_rfl) (by simp) ?_
    refine AllReady.cons rfl (fun K hK => ?_) AllReady.nil
    refine step_wanted (by rfl) ?_
    go_simp
    refine (hso _ _ (hb1.alloc hb1.size _).drew (hru.below (((Below.refl _ _).alloc (Nat.le_refl _) _).drew))).mono ?_
    rintro e w2 ⟨v2, rfl, hown2, hb2⟩
    try go_simp
    refine hK _ _ ?_; clear hK K
    refine wpAny_ready (rs := [4]) (by kernel_rfl) (by simp) ?_
    refine AllReady.cons rfl (fun K hK => ?_) AllReady.nil
    refine step_append_lies _ (by rfl) _ _ _ (by rfl) _ 4 i0 _ 1 1 Tryz.underlying117 hi0 hz0 hz1 hz2 rfl (by omega) v2 cs.length _ (by rfl) hown2 ⟨w1.heap.size, 0, none⟩ 1 1 [.bool false] (by rfl) (by rfl) (news_one (new_first hb2)) (by simp [Value.oneCell']) (by omega) (by unfold maxLen; omega) (by omega) hb2.size w2.heap.size rfl ?_
    intro gg cap3 w3 hown3 hgrow hat hlt
    try go_simp
    refine hK _ _ ?_; clear hK K
    refine wpAny_take (i := 6) (v := .bool true) rfl (by kernel_rfl) (by kernel_rfl) (by kernel_rfl) (fun _ _ _ h => h) (Or.inl ⟨by rfl, by intro w; go_simp⟩) ?_
    try simp only [Act.put, List.setIfInBounds_toArray]
    refine wpAny_take (i := 7) (v := .int .i64 (-1)) rfl (by kernel_rfl) (by kernel_rfl) (by kernel_rfl) (fun _ _ _ h => h) (Or.inl ⟨by rfl, by intro w; go_simp⟩) ?_
    try simp only [Act.put]
    refine wpAny_take (i := 8) (v := .bool false) rfl (by kernel_rfl) (by kernel_rfl) (by kernel_rfl) (fun _ _ _ h => h) (Or.inl ⟨by rfl, by intro w; go_simp⟩) ?_
    try simp only [Act.put]
    refine wpAny_take (i := 9) (v := .bool false) rfl (by kernel_rfl) (by kernel_rfl) (by kernel_rfl) (fun _ _ _ h => h) (Or.inl ⟨by rfl, by intro w; go_simp⟩) ?_
    try simp only [Act.put]
    refine wpAny_take (i := 10) (v := .bool false) rfl (by kernel_rfl) (by kernel_rfl) (by kernel_rfl) (fun _ _ _ h => h) (Or.inl ⟨by rfl, by intro w; go_simp⟩) ?_
    try simp only [Act.put]
    refine wpAny_take (i := 11) (v := undef) rfl (by kernel_rfl) (by kernel_rfl) (by kernel_rfl) (fun _ _ _ h => h) (Or.inr ⟨by kernel_rfl, rfl⟩) ?_
    try simp only [Act.put]
    refine wpAny_take (i := 12) (v := undef) rfl (by kernel_rfl) (by kernel_rfl) (by kernel_rfl) (fun _ _ _ h => h) (Or.inr ⟨by kernel_rfl, rfl⟩) ?_
    try simp only [Act.put]
    refine wpAny_take (i := 13) (v := undef) rfl (by kernel_rfl) (by kernel_rfl) (by kernel_rfl) (fun _ _ _ h => h) (Or.inr ⟨by kernel_rfl, rfl⟩) ?_
    try simp only [Act.put]
    refine wpAny_take (i := 14) (v := undef) rfl (by kernel_rfl) (by kernel_rfl) (by kernel_rfl) (fun _ _ _ h => h) (Or.inr ⟨by kernel_rfl, rfl⟩) ?_
    try simp only [Act.put]
    refine wpAny_take (i := 15) (v := undef) rfl (by kernel_rfl) (by kernel_rfl) (by kernel_rfl) (fun _ _ _ h => h) (Or.inr ⟨by kernel_rfl, rfl⟩) ?_
    try simp only [Act.put]
    refine wpAny_take (i := 16) (v := .bool false) rfl (by kernel_rfl) (by kernel_rfl) (by kernel_rfl) (fun _ _ _ h => h) (Or.inl ⟨by rfl, by intro w; go_simp⟩) ?_
    try simp only [Act.put]
    refine wpAny_ready (rs := [17]) (by kernel_rfl) (by simp) ?_
    refine AllReady.cons rfl (fun K hK => ?_) AllReady.nil
    go_simp
    refine hK _ _ ?_; clear hK K
    refine wpAny_ready (rs := [18]) (by kernel_rfl) (by simp) ?_
    refine AllReady.cons rfl (fun K hK => ?_) AllReady.nil
    go_simp
    refine hK _ _ ?_; clear hK K
    refine wpAny_done (by kernel_rfl) ?_ _
    go_wp2
    go_ret2
    exact ⟨⟨_, rfl⟩, belB hb1 hb2 hown2 hgrow⟩

theorem ty_sum_no (w : World) (vs : Value) (b off len cap i : Nat) (at_ : Option Addr) (na capa : Nat) (vb : Value) (hi : i ≤ 1000) (hlen : len ≤ 60) (hna : na ≤ 9) (hi2 : i + 2 < len) (hbw : b < w.heap.size) (hci : w.cell? ⟨b, off + i, none⟩ = some (.string (bs wSum))) (x1 x2 : List UInt8) (hc1 : w.cell? ⟨b, off + (i + 1), none⟩ = some (.string (bs x1))) (hc2 : w.cell? ⟨b, off + (i + 2), none⟩ = some (.string (bs x2))) (cs : List Nat) (ys : List Bool) (okc : Bool) (p : Int) (hcl : cs.length ≤ 1048577) (hno : okc = false ∨ (okc = true ∧ p = -1)) (hp : Calls Tryz.prog 163 #[.string (bs x1), .int .i64 na] w fun e w' => e = .returned (.int .i64 p) ∧ w' = w) (hcs : Calls Tryz.prog 206 #[.string (bs x2), .int .i64 na] w fun e w' => ∃ u, e = .returned (.tuple #[u, .bool okc]) ∧ Reads w' u (cs.map i64v) ∧ Below w.heap.size w w') (hso : ∀ w1 u, Below w.heap.size w w1 → Reads w1 u (cs.map i64v) → Calls Tryz.prog 207 #[.slice at_ na capa, u] w1 fun e w' => ∃ v', e = .returned v' ∧ w'.ownsRow w1.heap.size 4 1 v' cs.length (ys.map Value.bool) ∧ Below w1.heap.size w1 w') :
    Calls Tryz.prog 155 #[vs, .slice (some ⟨b, off, none⟩) len cap, .int .i64 i, .slice at_ na capa, vb] w fun e w' => (∃ v, e = .returned (.tuple #[v, .bool false])) ∧ Below w.heap.size w w' := by
  rcases hno with rfl | ⟨rfl, rfl⟩
  · exact ty_sum_no1 w vs b off len cap i at_ na capa vb hi hlen hna hi2 hbw hci x1 x2 hc1 hc2 cs ys p hcl hp hcs hso
  · exact ty_sum_no2 w vs b off len cap i at_ na capa vb hi hlen hna hi2 hbw hci x1 x2 hc1 hc2 cs ys hcl hp hcs hso
end Go.Proofs.YtnpjldffciociaaGreatDoor
