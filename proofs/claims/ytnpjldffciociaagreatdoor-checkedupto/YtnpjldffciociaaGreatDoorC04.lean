import Derived.Test.YtnpjldffciociaaGreatDoorC03
import Derived.WalkSmall
import Derived.Deep.RegionHeld3
import Derived.Deep.AppendLies
import Derived.Deep.RegionLaw
import Derived.BigRegion
import Derived.Deep.DrawnRows
namespace Go.Proofs.YtnpjldffciociaaGreatDoor
open Go.RowKit
attribute [local go_sem ↓] Go.wp_at_zero Go.wp_at_succ

theorem step_wanted {P : Program} {ops : Array Oper} {o : Oper} {a : Act} {w : World} {K : Act → World → Prop} {Q : Exit → Act → World → Prop} {E : Prop} (hgd : o.guard = none) (h : Oper.wp P o a w K Q) :
    if Region.wanted o (yielded ops a.tmps) = true then Oper.wp P o a w K Q else E := by
  have hw : Region.wanted o (yielded ops a.tmps) = true := by simp [Region.wanted, hgd]
  rw [if_pos hw]; exact h
theorem own_le {w : World} {base : Nat} {e : TypeId} {size : Nat} {v : Value} {n : Nat} {xs : List Value} (h : w.ownsRow base e size v n xs) {k : Nat} (hk : v.ownBlock = some k) : base ≤ k := by
  rcases h.2 with ⟨rfl, _⟩ | ⟨g, cap, cur, rfl, hb, _⟩
  · simp [Value.ownBlock] at hk
  · simp [Value.ownBlock] at hk; omega
theorem belA {w w1 w2 w3 : World} {o : Obj} {e : TypeId} {v : Value} {n : Nat} {xs : List Value} (hb1 : Below w.heap.size w w1) (hb2 : Below w1.drew.heap.size w1.drew w2) (hown : w2.ownsRow w1.drew.heap.size e 1 v n xs) (hg : (w2.alloc o).grownBy w3 v.ownBlock) : Below w.heap.size w w3 := by
  have h1 : w.heap.size ≤ w1.heap.size := hb1.size
  have h2 : w1.heap.size ≤ w2.heap.size := hb2.size
  have h3 : Below w.heap.size w w2 := hb1.drew.trans (hb2.mono h1)
  exact (h3.alloc (by omega) o).grown hg (by simp; omega) fun k hk => Nat.le_trans h1 (own_le hown hk)
theorem belB {w w1 w2 w3 : World} {o : Obj} {e : TypeId} {v : Value} {n : Nat} {xs : List Value} (hb1 : Below w.heap.size w w1) (hb2 : Below (w1.alloc o).drew.heap.size (w1.alloc o).drew w2) (hown : w2.ownsRow (w1.alloc o).drew.heap.size e 1 v n xs) (hg : w2.grownBy w3 v.ownBlock) : Below w.heap.size w w3 := by
  have h1 : w.heap.size ≤ w1.heap.size := hb1.size
  have h2 : w1.heap.size + 1 ≤ w2.heap.size := by have := hb2.size; simpa using this
  have h3 : Below w.heap.size w w2 := (hb1.alloc h1 o).drew.trans (hb2.mono (by simp; omega))
  refine h3.grown hg (by omega) fun k hk => ?_
  have := own_le hown hk
  simp at this; omega
theorem news_one {w : World} {g : Nat} {u0 : Value} (h : w.cell? ⟨g, 0, none⟩ = some u0) : ∀ (j : Nat) u, [u0][j]? = some u → w.cell? ((⟨g, 0, none⟩ : Addr).add j) = some u := by
  intro j u hj
  match j, hj with
  | 0, hj => simp at hj; subst hj; simpa [Addr.add] using h
theorem new_first {w1 w2 : World} {o : Value} {t : TypeId} (hb2 : Below ((w1.alloc (.cells #[o] t)).drew).heap.size ((w1.alloc (.cells #[o] t)).drew) w2) : w2.cell? ⟨w1.heap.size, 0, none⟩ = some o := by
  rw [hb2.cell (p := ⟨w1.heap.size, 0, none⟩) (by simp)]
  simp

set_option maxRecDepth 10000 in
set_option maxHeartbeats 8000000 in
theorem ty_sum_no1 (w : World) (vs : Value) (b off len cap i : Nat) (at_ : Option Addr) (na capa : Nat) (vb : Value) (hi : i ≤ 1000) (_hlen : len ≤ 60) (_hna : na ≤ 9) (hi2 : i + 2 < len) (_hbw : b < w.heap.size) (hci : w.cell? ⟨b, off + i, none⟩ = some (.string (bs wSum))) (x1 x2 : List UInt8) (hc1 : w.cell? ⟨b, off + (i + 1), none⟩ = some (.string (bs x1))) (hc2 : w.cell? ⟨b, off + (i + 2), none⟩ = some (.string (bs x2))) (cs : List Nat) (ys : List Bool) (p : Int) (hcl : cs.length ≤ 1048577) (hp : Calls Tryz.prog 163 #[.string (bs x1), .int .i64 na] w fun e w' => e = .returned (.int .i64 p) ∧ w' = w) (hcs : Calls Tryz.prog 206 #[.string (bs x2), .int .i64 na] w fun e w' => ∃ u, e = .returned (.tuple #[u, .bool false]) ∧ Reads w' u (cs.map i64v) ∧ Below w.heap.size w w') (hso : ∀ w1 u, Below w.heap.size w w1 → Reads w1 u (cs.map i64v) → Calls Tryz.prog 207 #[.slice at_ na capa, u] w1 fun e w' => ∃ v', e = .returned v' ∧ w'.ownsRow w1.heap.size 4 1 v' cs.length (ys.map Value.bool) ∧ Below w1.heap.size w1 w') :
    Calls Tryz.prog 155 #[vs, .slice (some ⟨b, off, none⟩) len cap, .int .i64 i, .slice at_ na capa, vb] w fun e w' => (∃ v, e = .returned (.tuple #[v, .bool false])) ∧ Below w.heap.size w w' := by
  obtain ⟨i0, hi0, hz0, hz1, hz2⟩ := info_parts Tryz.infoBool
  have hbs := bs_toList2
  go_enter Tryz.func155, Tryz.ntmps155
  go_wp2_with (first | (go_at_call 163; with_reducible refine hp.mono ?_; rintro e w' ⟨rfl, hw⟩; obtain rfl := hw.symm) | (go_at_call 206; refine hcs.mono ?_; rintro e w1 ⟨u, rfl, hru, hb1⟩))
  first | (go_region_law (first
      | (refine step_wanted (by rfl) ?_; go_simp; refine (hso _ _ (by first | exact hb1.drew | exact (hb1.alloc hb1.size _).drew) (by first | exact hru.below ((Below.refl _ _).drew) | exact hru.below (((Below.refl _ _).alloc (Nat.le_refl _) _).drew))).mono ?_; rintro e w2 ⟨v2, rfl, hown2, hb2⟩)
      | (refine step_append_lies _ (by rfl) _ _ _ (by rfl) _ 4 i0 _ 1 1 Tryz.underlying117 hi0 hz0 hz1 hz2 rfl (by omega) v2 cs.length _ (by rfl) (hown2.alloc _) ⟨w2.heap.size, 0, none⟩ 1 1 [.bool false] (by rfl) (by rfl) (news_one (by simp)) (by simp [Value.oneCell']) (by omega) (by unfold maxLen; omega) (by omega) (by have := hb2.size; simp at this ⊢; omega) (w2.heap.size + 1) (by simp) ?_; intro gg cap3 w3 hown3 hgrow hat hlt)
      | (refine step_append_lies _ (by rfl) _ _ _ (by rfl) _ 4 i0 _ 1 1 Tryz.underlying117 hi0 hz0 hz1 hz2 rfl (by omega) v2 cs.length _ (by rfl) hown2 ⟨w1.heap.size, 0, none⟩ 1 1 [.bool false] (by rfl) (by rfl) (news_one (new_first hb2)) (by simp [Value.oneCell']) (by omega) (by unfold maxLen; omega) (by omega) hb2.size w2.heap.size rfl ?_; intro gg cap3 w3 hown3 hgrow hat hlt))) | fail
  all_goals go_wp2
  all_goals
    go_ret2
    refine ⟨⟨_, rfl⟩, ?_⟩
    first
      | exact belA hb1 hb2 hown2 hgrow
      | exact belB hb1 hb2 hown2 hgrow
end Go.Proofs.YtnpjldffciociaaGreatDoor
