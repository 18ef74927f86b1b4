import Derived.Test.YtdnfhaojfdohdaaGreatDoorR01
import Derived.Deep.AppendLies
import Derived.Deep.RegionLaw
namespace Go.Proofs.YtdnfhaojfdohdaaGreatDoor
open Go.RowKit

theorem Tryz.infoMask : (Tryz.prog.info? 331).map (fun i => (i.zero, i.size, i.bytes)) = some (some (.agg #[.int .i64 0, .int .i64 0, .int .i64 0, .int .i64 0, .string ByteArray.empty, .pointer none]), 6, 56) := by kernel_rfl
theorem LawAt.mask {w2 w3 : World} {lb na : Nat} {av mv mv' : Value} {xs : List Value} {ms : List MRow} {m : MRow} {o : Obj} (h : LawAt w2 lb av mv na xs ms) (hrow : w3.ownsRow (lb + 1) 331 6 mv' (ms.length + 1) (flatM ms ++ m.cells)) (hg : (w2.alloc o).drew.grownBy w3 mv.ownBlock) :
    w3.heap[lb]? = some (.cells #[av, mv] 187 (0, 0)) ∧ LawAt (w3.setCell ⟨lb, 1, none⟩ mv') lb av mv' na xs (ms ++ [m]) ∧ Kp lb w2 (w3.setCell ⟨lb, 1, none⟩ mv') := by
  have hba : Below w2.heap.size w2 (w2.alloc o).drew := ((Below.refl _ _).alloc (Nat.le_refl _) _).drew
  have ha := h.below hba
  have hlt : lb < w2.heap.size := (Array.getElem?_eq_some_iff.1 h.blk).1
  have hsz : (w2.alloc o).drew.heap.size = w2.heap.size + 1 := by simp
  have hb3 : w3.heap[lb]? = some (.cells #[av, mv] 187 (0, 0)) := (hg.block lb (by omega) (fun e => row_not ha.blk ha.mrow e.symm)).trans ha.blk
  have hset : w3.grownBy (w3.setCell ⟨lb, 1, none⟩ mv') (some lb) := ⟨rfl, rfl, rfl, by simp [World.setCell], fun k _ hk => Below.heap_setCell _ _ _ _ (fun e => hk (by simp [e]))⟩
  have ha3 : w3.ownsRow (lb + 1) 323 2 av na xs := ha.arow.kept hg (rows_apart ha.arow ha.mrow (by decide))
  have hfl : flatM (ms ++ [m]) = flatM ms ++ m.cells := by simp [flatM]
  refine ⟨hb3, ⟨by simp [World.setCell, Array.getElem?_modify, hb3], ha3.kept hset (Or.inr (row_not hb3 ha3)), ?_⟩, ?_⟩
  · rw [hfl, List.length_append]
    exact hrow.kept hset (Or.inr (row_not hb3 hrow))
  · have hB : Below lb w2 (w2.alloc o).drew := hba.mono (Nat.le_of_lt hlt)
    have hB3 : Below lb w2 w3 := hB.grown hg (show lb ≤ (w2.alloc o).drew.heap.size by omega) (fun k hk => by have := (own_type ha.mrow hk).2; omega)
    refine ⟨hB3.setCell (p := ⟨lb, 1, none⟩) (Nat.le_refl _) _, fun k cs fz hk => ?_⟩
    have hk2 : k < w2.heap.size := (Array.getElem?_eq_some_iff.1 hk).1
    have hka := (hba.block k hk2).trans hk
    have hk3 : w3.heap[k]? = some (.cells cs 9 fz) := (hg.block k (by omega) (fun e => by
      obtain ⟨⟨cur, hc⟩, _⟩ := own_type ha.mrow e.symm
      have := hka.symm.trans hc
      simp at this)).trans hka
    refine (Below.heap_setCell _ _ _ _ fun e => ?_).trans hk3
    simp at e
    subst e
    have := hk.symm.trans h.blk
    simp at this
set_option maxRecDepth 10000 in
set_option maxHeartbeats 2000000 in
theorem pmask_dup (rb lb t c sb soff sn scap : Nat) (tv : Value) (x : List UInt8) (vt : Int) (w : World) (P P2 P3 P4 : World → Prop) (R : Value → World → Prop) (ht : t < sn) (_hsn : sn ≤ 1048577)
    (h1 : Calls Tryz.prog 201 #[.pointer (some ⟨rb, 0, none⟩)] w fun e w' => e = .returned (.tuple #[.int .i64 t, .nilIface]) ∧ P w')
    (h2 : ∀ w1, P w1 → Calls Tryz.prog 203 #[.pointer (some ⟨rb, 0, none⟩)] w1 fun e w' => e = .returned (.tuple #[.int .i64 c, .nilIface]) ∧ P2 w')
    (h3 : ∀ w1, P2 w1 → Calls Tryz.prog 151 #[.pointer (some ⟨rb, 0, none⟩)] w1 fun e w' => e = .returned (.string (bs x)) ∧ P3 w')
    (h4 : ∀ w1, P3 w1 → Calls Tryz.prog 204 #[.pointer (some ⟨rb, 0, none⟩), .string (bs x)] w1 fun e w' => (∃ n S, e = .returned (.tuple #[.agg #[.int .i64 vt, .int .i64 n, .string S], .nilIface])) ∧ P4 w')
    (hS : ∀ w4 W, P4 w4 → Below w4.heap.size w4 W → W.cell? ⟨rb, 0, none⟩ = some (.slice (some ⟨sb, soff, none⟩) sn scap) ∧ W.cell? ⟨sb, soff + t * 2 + 1, none⟩ = some tv ∧ ∀ m, Calls Tryz.prog 205 #[tv, .int .i64 c] (W.drewN m) fun e w' => e = .returned (.int .i64 vt) ∧ w' = W.drewN m)
    (hK : ∀ w4 W, P4 w4 → Below w4.heap.size w4 W → Calls Tryz.prog 206 #[.pointer (some ⟨lb, 0, none⟩), .int .i64 t, .int .i64 c] W fun e w' => e = .returned (.bool true) ∧ Below W.heap.size W w')
    (hF : ∀ w4 W s, P4 w4 → Below w4.heap.size w4 W → Calls Tryz.prog 93 #[.pointer (some ⟨rb, 0, none⟩), .string s] W fun e w' => ∃ te pe, e = .returned (.iface te pe) ∧ R (.iface te pe) w') :
    Calls Tryz.prog 153 #[.pointer (some ⟨rb, 0, none⟩), .pointer (some ⟨lb, 0, none⟩)] w fun e w' => ∃ te pe, e = .returned (.iface te pe) ∧ R (.iface te pe) w' := by
  have hi : 0 ≤ (t : Int) ∧ (t : Int) < sn := by omega
  go_enter Tryz.func153, Tryz.ntmps153
  go_wp2_with (first
    | (go_at_call 201; refine h1.mono ?_; rintro e w1 ⟨rfl, hP⟩)
    | (go_at_call 203; refine (h2 _ hP).mono ?_; rintro e w2 ⟨rfl, hP2⟩)
    | (go_at_call 151; refine (h3 _ hP2).mono ?_; rintro e w3 ⟨rfl, hP3⟩)
    | (go_at_call 204; refine (h4 _ hP3).mono ?_; rintro e w4 ⟨⟨n, S, rfl⟩, hP4⟩))
  have hba : Below w4.heap.size w4 (w4.alloc (.cells #[.int .i64 vt, .int .i64 n, .string S] 325)) := (Below.refl _ _).alloc (Nat.le_refl _) _
  obtain ⟨k0, k1, hT⟩ := hS w4 _ hP4 hba
  go_quiet (first | (go_at_call 205; exact quiet_c hT _) | (go_at_call 205; exact quiet_d hT _ _) | (go_at_call 205; exact quiet_e hT _ _))
  have hbq := belowN hba nq
  have hv0 : ((w4.alloc (.cells #[.int .i64 vt, .int .i64 n, .string S] 325)).drewN nq).heap[w4.heap.size]? = some (.cells #[.int .i64 vt, .int .i64 n, .string S] 325 (0, 0)) := heap_alloc_new w4 _
  have hq4 : w4.heap.size < ((w4.alloc (.cells #[.int .i64 vt, .int .i64 n, .string S] 325)).drewN nq).heap.size := by simp
  generalize (w4.alloc (.cells #[.int .i64 vt, .int .i64 n, .string S] 325)).drewN nq = wq at *
  have hk := hK w4 wq hP4 hbq
  go_wp2_with (first
    | (go_at_call 206; refine hk.mono ?_; rintro e w5 ⟨rfl, hb5⟩; have hb5' := hbq.trans (hb5.mono hbq.size))
    | (go_at_call 93; refine (hF w4 _ _ hP4 hb5').mono ?_; rintro e w6 ⟨te, pe, rfl, hR⟩))
  go_ret
  exact ⟨te, pe, rfl, hR⟩
set_option maxRecDepth 10000 in
set_option maxHeartbeats 2000000 in
theorem pmask_last (rb lb t c sb soff sn scap : Nat) (tv : Value) (x : List UInt8) (vt : Int) (w : World) (P P2 P3 P4 : World → Prop) (R : Value → World → Prop) (ht : t < sn) (_hsn : sn ≤ 1048577)
    (h1 : Calls Tryz.prog 201 #[.pointer (some ⟨rb, 0, none⟩)] w fun e w' => e = .returned (.tuple #[.int .i64 t, .nilIface]) ∧ P w')
    (h2 : ∀ w1, P w1 → Calls Tryz.prog 203 #[.pointer (some ⟨rb, 0, none⟩)] w1 fun e w' => e = .returned (.tuple #[.int .i64 c, .nilIface]) ∧ P2 w')
    (h3 : ∀ w1, P2 w1 → Calls Tryz.prog 151 #[.pointer (some ⟨rb, 0, none⟩)] w1 fun e w' => e = .returned (.string (bs x)) ∧ P3 w')
    (h4 : ∀ w1, P3 w1 → Calls Tryz.prog 204 #[.pointer (some ⟨rb, 0, none⟩), .string (bs x)] w1 fun e w' => (∃ n S, e = .returned (.tuple #[.agg #[.int .i64 vt, .int .i64 n, .string S], .nilIface])) ∧ P4 w')
    (hS : ∀ w4 W, P4 w4 → Below w4.heap.size w4 W → W.cell? ⟨rb, 0, none⟩ = some (.slice (some ⟨sb, soff, none⟩) sn scap) ∧ W.cell? ⟨sb, soff + t * 2 + 1, none⟩ = some tv ∧ ∀ m, Calls Tryz.prog 205 #[tv, .int .i64 c] (W.drewN m) fun e w' => e = .returned (.int .i64 vt) ∧ w' = W.drewN m)
    (hK : ∀ w4 W, P4 w4 → Below w4.heap.size w4 W → Calls Tryz.prog 206 #[.pointer (some ⟨lb, 0, none⟩), .int .i64 t, .int .i64 c] W fun e w' => e = .returned (.bool false) ∧ Below W.heap.size W w')
    (hL : ∀ w4 W, P4 w4 → Below w4.heap.size w4 W → Calls Tryz.prog 202 #[.pointer (some ⟨rb, 0, none⟩), .int .i64 t] W fun e w' => ∃ p te pe, e = .returned (.tuple #[.pointer p, .iface te pe]) ∧ R (.iface te pe) w') :
    Calls Tryz.prog 153 #[.pointer (some ⟨rb, 0, none⟩), .pointer (some ⟨lb, 0, none⟩)] w fun e w' => ∃ te pe, e = .returned (.iface te pe) ∧ R (.iface te pe) w' := by
  have hi : 0 ≤ (t : Int) ∧ (t : Int) < sn := by omega
  go_enter Tryz.func153, Tryz.ntmps153
  go_wp2_with (first
    | (go_at_call 201; refine h1.mono ?_; rintro e w1 ⟨rfl, hP⟩)
    | (go_at_call 203; refine (h2 _ hP).mono ?_; rintro e w2 ⟨rfl, hP2⟩)
    | (go_at_call 151; refine (h3 _ hP2).mono ?_; rintro e w3 ⟨rfl, hP3⟩)
    | (go_at_call 204; refine (h4 _ hP3).mono ?_; rintro e w4 ⟨⟨n, S, rfl⟩, hP4⟩))
  have hba : Below w4.heap.size w4 (w4.alloc (.cells #[.int .i64 vt, .int .i64 n, .string S] 325)) := (Below.refl _ _).alloc (Nat.le_refl _) _
  obtain ⟨k0, k1, hT⟩ := hS w4 _ hP4 hba
  go_quiet (first | (go_at_call 205; exact quiet_c hT _) | (go_at_call 205; exact quiet_d hT _ _) | (go_at_call 205; exact quiet_e hT _ _))
  have hbq := belowN hba nq
  have hv0 : ((w4.alloc (.cells #[.int .i64 vt, .int .i64 n, .string S] 325)).drewN nq).heap[w4.heap.size]? = some (.cells #[.int .i64 vt, .int .i64 n, .string S] 325 (0, 0)) := heap_alloc_new w4 _
  have hq4 : w4.heap.size < ((w4.alloc (.cells #[.int .i64 vt, .int .i64 n, .string S] 325)).drewN nq).heap.size := by simp
  generalize (w4.alloc (.cells #[.int .i64 vt, .int .i64 n, .string S] 325)).drewN nq = wq at *
  have hk := hK w4 wq hP4 hbq
  go_wp2_with (first
    | (go_at_call 206; refine hk.mono ?_; rintro e w5 ⟨rfl, hb5⟩; have hb5' := hbq.trans (hb5.mono hbq.size))
    | (go_at_call 202; refine (hL w4 _ hP4 hb5').mono ?_; rintro e w6 ⟨p, te, pe, rfl, hR⟩))
  go_ret
  exact ⟨te, pe, rfl, hR⟩
set_option maxRecDepth 10000 in
set_option maxHeartbeats 4000000 in
theorem pmask_yes (na : Nat) (av mv : Value) (xs : List Value) (ms : List MRow) (hml : ms.length ≤ 1000) (Q : World → Prop) (rb lb t c sb soff sn scap : Nat) (tv : Value) (x : List UInt8) (vt : Int) (w : World) (P P2 P3 P4 : World → Prop) (_R : Value → World → Prop) (ht : t < sn) (_hsn : sn ≤ 1048577) (hrbx : ∀ w4, P4 w4 → rb < w4.heap.size)
    (h1 : Calls Tryz.prog 201 #[.pointer (some ⟨rb, 0, none⟩)] w fun e w' => e = .returned (.tuple #[.int .i64 t, .nilIface]) ∧ P w')
    (h2 : ∀ w1, P w1 → Calls Tryz.prog 203 #[.pointer (some ⟨rb, 0, none⟩)] w1 fun e w' => e = .returned (.tuple #[.int .i64 c, .nilIface]) ∧ P2 w')
    (h3 : ∀ w1, P2 w1 → Calls Tryz.prog 151 #[.pointer (some ⟨rb, 0, none⟩)] w1 fun e w' => e = .returned (.string (bs x)) ∧ P3 w')
    (h4 : ∀ w1, P3 w1 → Calls Tryz.prog 204 #[.pointer (some ⟨rb, 0, none⟩), .string (bs x)] w1 fun e w' => (∃ n S, e = .returned (.tuple #[.agg #[.int .i64 vt, .int .i64 n, .string S], .nilIface])) ∧ P4 w')
    (hS : ∀ w4 W, P4 w4 → Below w4.heap.size w4 W → W.cell? ⟨rb, 0, none⟩ = some (.slice (some ⟨sb, soff, none⟩) sn scap) ∧ W.cell? ⟨sb, soff + t * 2 + 1, none⟩ = some tv ∧ ∀ m, Calls Tryz.prog 205 #[tv, .int .i64 c] (W.drewN m) fun e w' => e = .returned (.int .i64 vt) ∧ w' = W.drewN m)
    (hK : ∀ w4 W, P4 w4 → Below w4.heap.size w4 W → Calls Tryz.prog 206 #[.pointer (some ⟨lb, 0, none⟩), .int .i64 t, .int .i64 c] W fun e w' => e = .returned (.bool false) ∧ Below W.heap.size W w')
    (hL : ∀ w4 W, P4 w4 → Below w4.heap.size w4 W → Calls Tryz.prog 202 #[.pointer (some ⟨rb, 0, none⟩), .int .i64 t] W fun e w' => (∃ b : Nat, e = .returned (.tuple #[.pointer (some ⟨b, 0, none⟩), .nilIface])) ∧ LawAt w' lb av mv na xs ms ∧ Stp rb W w' ∧ Q w') :
    Calls Tryz.prog 153 #[.pointer (some ⟨rb, 0, none⟩), .pointer (some ⟨lb, 0, none⟩)] w fun e w' => e = .returned .nilIface ∧ ∃ w2 mv' m, Q w2 ∧ m.t = t ∧ m.c = c ∧ LawAt w' lb av mv' na xs (ms ++ [m]) ∧ Kp lb w2 w' := by
  obtain ⟨j0, hj, hy0, hy1, hy2⟩ := info_parts Tryz.infoMask
  have hi : 0 ≤ (t : Int) ∧ (t : Int) < sn := by omega
  go_enter Tryz.func153, Tryz.ntmps153
  go_wp2_with (first
    | (go_at_call 201; refine h1.mono ?_; rintro e w1 ⟨rfl, hP⟩)
    | (go_at_call 203; refine (h2 _ hP).mono ?_; rintro e w2 ⟨rfl, hP2⟩)
    | (go_at_call 151; refine (h3 _ hP2).mono ?_; rintro e w3 ⟨rfl, hP3⟩)
    | (go_at_call 204; refine (h4 _ hP3).mono ?_; rintro e w4 ⟨⟨n, S, rfl⟩, hP4⟩))
  have hba : Below w4.heap.size w4 (w4.alloc (.cells #[.int .i64 vt, .int .i64 n, .string S] 325)) := (Below.refl _ _).alloc (Nat.le_refl _) _
  obtain ⟨k0, k1, hT⟩ := hS w4 _ hP4 hba
  go_quiet (first | (go_at_call 205; exact quiet_c hT _) | (go_at_call 205; exact quiet_d hT _ _) | (go_at_call 205; exact quiet_e hT _ _))
  have hbq := belowN hba nq
  have hv0 : ((w4.alloc (.cells #[.int .i64 vt, .int .i64 n, .string S] 325)).drewN nq).heap[w4.heap.size]? = some (.cells #[.int .i64 vt, .int .i64 n, .string S] 325 (0, 0)) := heap_alloc_new w4 _
  have hq4 : w4.heap.size < ((w4.alloc (.cells #[.int .i64 vt, .int .i64 n, .string S] 325)).drewN nq).heap.size := by simp
  generalize (w4.alloc (.cells #[.int .i64 vt, .int .i64 n, .string S] 325)).drewN nq = wq at *
  have hk := hK w4 wq hP4 hbq
  have hrb := hrbx w4 hP4
  go_wp2_with (first
    | (go_at_call 206; refine hk.mono ?_; rintro e w5 ⟨rfl, hb5⟩; have hb5' := hbq.trans (hb5.mono hbq.size))
    | (go_at_call 202; refine (hL w4 _ hP4 hb5').mono ?_; rintro e w6 ⟨⟨b, rfl⟩, hLaw, hS6, hQ⟩))
  have hv5 := (hb5.block w4.heap.size hq4).trans hv0
  have hv6 : w6.heap[w4.heap.size]? = some (.cells #[.int .i64 vt, .int .i64 n, .string S] 325 (0, 0)) := (hS6.block w4.heap.size (by have := hb5.size; omega) (by simp; omega)).trans hv5
  obtain ⟨ma, mc, rfl, _⟩ := row_slice hLaw.mrow
  have l1 : w6.cell? ⟨lb, 1, none⟩ = some (.slice ma ms.length mc) := by rw [Lib.cell_of_heap hLaw.blk]; rfl
  have v0 : w6.cell? ⟨w4.heap.size, 0, none⟩ = some (.int .i64 vt) := by rw [Lib.cell_of_heap hv6]; rfl
  have v1 : w6.cell? ⟨w4.heap.size, 1, none⟩ = some (.int .i64 n) := by rw [Lib.cell_of_heap hv6]; rfl
  have v2 : w6.cell? ⟨w4.heap.size, 2, none⟩ = some (.string S) := by rw [Lib.cell_of_heap hv6]; rfl
  have hlb : lb < w6.heap.size := (Array.getElem?_eq_some_iff.1 hLaw.blk).1
  clear h1 h2 h3 h4 hS hK hL hT k0 k1 hba hk hrbx hbq hb5 hb5' hv0 hv5 hv6 hP hP2 hP3 hP4 hi hS6 hq4 hrb
  have hfz := Lib.frozen_of_heap hLaw.blk 1
  first
    | (go_region_law ((refine step_append_lies _ (by rfl) _ _ _ (by rfl) (lb + 1) 331 j0 _ 6 56 Tryz.underlying185 hj hy0 hy1 hy2 rfl (by omega) (.slice ma ms.length mc) ms.length (flatM ms) (by rfl) ((hLaw.mrow.alloc _).drew) ⟨w6.heap.size, 0, none⟩ 1 1 (MRow.cells ⟨t, c, vt, n, S, b⟩) (by rfl) (by rfl) (World.news_of_block (cs := #[.int .i64 t, .int .i64 c, .int .i64 vt, .int .i64 n, .string S, .pointer (some ⟨b, 0, none⟩)]) (t := 331) (fr := (0, 0)) (heap_alloc_new w6 _)) (by intro u hu; simp [MRow.cells] at hu; rcases hu with rfl | rfl | rfl | rfl | rfl | rfl <;> rfl) (by omega) (by unfold maxLen; omega) (by omega) (by simp; omega) (w6.heap.size + 1) (by simp) ?_; intro gg cap5 w7 hown7 hg7 _ _; have HQ := hidR (hLaw.mask (m := ⟨t, c, vt, n, S, b⟩) hown7 hg7); have q0 : w7.cell? ⟨lb, 1, none⟩ = some (.slice ma ms.length mc) := (by rw [Lib.cell_of_heap HQ.out.1]; rfl); have qf := Lib.frozen_of_heap HQ.out.1 1)))
    | fail
  all_goals go_wp2
  all_goals go_ret
  all_goals exact ⟨rfl, w6, _, ⟨t, c, vt, n, S, b⟩, hQ, rfl, rfl, HQ.out.2.1, HQ.out.2.2⟩
end Go.Proofs.YtdnfhaojfdohdaaGreatDoor
