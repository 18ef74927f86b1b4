import Derived.Test.YtnpjldffciociaaGreatDoorR01
import Derived.Deep.AppendLies
import Derived.Deep.RegionLaw
namespace Go.Proofs.YtnpjldffciociaaGreatDoor
open Go.RowKit

theorem Tryz.infoMask : (Tryz.prog.info? 340).map (fun i => (i.zero, i.size, i.bytes)) = some (some (.agg #[.int .i64 0, .int .i64 0, .int .i64 0, .string ByteArray.empty, .pointer none]), 5, 48) := by kernel_rfl
theorem Grew.of_drew {w2 w3 : World} {o : Obj} {lb gg n c : Nat} {v : Value} (hg : (w2.alloc o).drew.grownBy w3 v.ownBlock) (hat : v.ownBlock = some gg ∨ gg = w2.heap.size + 1) : Grew w2 w3 lb v (.slice (some ⟨gg, 0, none⟩) n c) := by
  have hba : Below w2.heap.size w2 (w2.alloc o).drew := ((Below.refl _ _).alloc (Nat.le_refl _) _).drew
  have hsz : (w2.alloc o).drew.heap.size = w2.heap.size + 1 := by simp
  refine ⟨⟨hg.os, hg.tape, hg.output, ?_, fun k hk hne => (hg.block k (by omega) hne).trans (hba.block k hk)⟩, ?_⟩
  · have := hg.size; omega
  · rcases hat with h | h
    · exact Or.inl (by rw [h]; rfl)
    · exact Or.inr ⟨gg, rfl, by omega⟩
set_option maxRecDepth 10000 in
set_option maxHeartbeats 2000000 in
theorem pmask_dup (rb lb o c : Nat) (ta : Option Addr) (tn tc : Nat) (x : List UInt8) (vt : Int) (w : World) (P2 P3 P4 : World → Prop) (R : Value → World → Prop)
    (h2 : Calls Tryz.prog 210 #[.pointer (some ⟨rb, 0, none⟩)] w fun e w' => e = .returned (.tuple #[.int .i64 c, .nilIface]) ∧ P2 w')
    (h3 : ∀ w1, P2 w1 → Calls Tryz.prog 156 #[.pointer (some ⟨rb, 0, none⟩)] w1 fun e w' => e = .returned (.string (bs x)) ∧ P3 w')
    (h4 : ∀ w1, P3 w1 → Calls Tryz.prog 211 #[.pointer (some ⟨rb, 0, none⟩), .string (bs x)] w1 fun e w' => (∃ n S, e = .returned (.tuple #[.agg #[.int .i64 vt, .int .i64 n, .string S], .nilIface])) ∧ P4 w')
    (hS : ∀ w4 W, P4 w4 → Below w4.heap.size w4 W → ∀ m, Calls Tryz.prog 212 #[.slice ta tn tc, .int .i64 c] (W.drewN m) fun e w' => e = .returned (.int .i64 vt) ∧ w' = W.drewN m)
    (hK : ∀ w4 W, P4 w4 → Below w4.heap.size w4 W → Calls Tryz.prog 213 #[.pointer (some ⟨lb, o, none⟩), .int .i64 c] W fun e w' => e = .returned (.bool true) ∧ Below W.heap.size W w')
    (hF : ∀ w4 W s, P4 w4 → Below w4.heap.size w4 W → Calls Tryz.prog 98 #[.pointer (some ⟨rb, 0, none⟩), .string s] W fun e w' => ∃ te pe, e = .returned (.iface te pe) ∧ R (.iface te pe) w') :
    Calls Tryz.prog 158 #[.pointer (some ⟨rb, 0, none⟩), .pointer (some ⟨lb, o, none⟩), .slice ta tn tc] w fun e w' => ∃ te pe, e = .returned (.iface te pe) ∧ R (.iface te pe) w' := by
  go_enter Tryz.func158, Tryz.ntmps158
  go_wp2_with (first
    | (go_at_call 210; refine h2.mono ?_; rintro e w2 ⟨rfl, hP2⟩)
    | (go_at_call 156; refine (h3 _ hP2).mono ?_; rintro e w3 ⟨rfl, hP3⟩)
    | (go_at_call 211; refine (h4 _ hP3).mono ?_; rintro e w4 ⟨⟨n, S, rfl⟩, hP4⟩))
  have hba : Below w4.heap.size w4 (w4.alloc (.cells #[.int .i64 vt, .int .i64 n, .string S] 335)) := (Below.refl _ _).alloc (Nat.le_refl _) _
  have hT := hS w4 _ hP4 hba
  go_quiet (first | (go_at_call 212; exact quiet_c hT _) | (go_at_call 212; exact quiet_d hT _ _) | (go_at_call 212; exact quiet_e hT _ _))
  have hbq := belowN hba nq
  have hv0 : ((w4.alloc (.cells #[.int .i64 vt, .int .i64 n, .string S] 335)).drewN nq).heap[w4.heap.size]? = some (.cells #[.int .i64 vt, .int .i64 n, .string S] 335 (0, 0)) := heap_alloc_new w4 _
  have hq4 : w4.heap.size < ((w4.alloc (.cells #[.int .i64 vt, .int .i64 n, .string S] 335)).drewN nq).heap.size := by simp
  generalize (w4.alloc (.cells #[.int .i64 vt, .int .i64 n, .string S] 335)).drewN nq = wq at *
  have hk := hK w4 wq hP4 hbq
  go_wp2_with (first
    | (go_at_call 213; refine hk.mono ?_; rintro e w5 ⟨rfl, hb5⟩; have hb5' := hbq.trans (hb5.mono hbq.size))
    | (go_at_call 98; refine (hF w4 _ _ hP4 hb5').mono ?_; rintro e w6 ⟨te, pe, rfl, hR⟩))
  go_ret
  exact ⟨te, pe, rfl, hR⟩
set_option maxRecDepth 10000 in
set_option maxHeartbeats 2000000 in
theorem pmask_last (rb lb o c : Nat) (ta : Option Addr) (tn tc : Nat) (x : List UInt8) (vt : Int) (w : World) (P2 P3 P4 : World → Prop) (R : Value → World → Prop)
    (h2 : Calls Tryz.prog 210 #[.pointer (some ⟨rb, 0, none⟩)] w fun e w' => e = .returned (.tuple #[.int .i64 c, .nilIface]) ∧ P2 w')
    (h3 : ∀ w1, P2 w1 → Calls Tryz.prog 156 #[.pointer (some ⟨rb, 0, none⟩)] w1 fun e w' => e = .returned (.string (bs x)) ∧ P3 w')
    (h4 : ∀ w1, P3 w1 → Calls Tryz.prog 211 #[.pointer (some ⟨rb, 0, none⟩), .string (bs x)] w1 fun e w' => (∃ n S, e = .returned (.tuple #[.agg #[.int .i64 vt, .int .i64 n, .string S], .nilIface])) ∧ P4 w')
    (hS : ∀ w4 W, P4 w4 → Below w4.heap.size w4 W → ∀ m, Calls Tryz.prog 212 #[.slice ta tn tc, .int .i64 c] (W.drewN m) fun e w' => e = .returned (.int .i64 vt) ∧ w' = W.drewN m)
    (hK : ∀ w4 W, P4 w4 → Below w4.heap.size w4 W → Calls Tryz.prog 213 #[.pointer (some ⟨lb, o, none⟩), .int .i64 c] W fun e w' => e = .returned (.bool false) ∧ Below W.heap.size W w')
    (hL : ∀ w4 W, P4 w4 → Below w4.heap.size w4 W → Calls Tryz.prog 209 #[.pointer (some ⟨rb, 0, none⟩), .slice ta tn tc] W fun e w' => ∃ p te pe, e = .returned (.tuple #[.pointer p, .iface te pe]) ∧ R (.iface te pe) w') :
    Calls Tryz.prog 158 #[.pointer (some ⟨rb, 0, none⟩), .pointer (some ⟨lb, o, none⟩), .slice ta tn tc] w fun e w' => ∃ te pe, e = .returned (.iface te pe) ∧ R (.iface te pe) w' := by
  go_enter Tryz.func158, Tryz.ntmps158
  go_wp2_with (first
    | (go_at_call 210; refine h2.mono ?_; rintro e w2 ⟨rfl, hP2⟩)
    | (go_at_call 156; refine (h3 _ hP2).mono ?_; rintro e w3 ⟨rfl, hP3⟩)
    | (go_at_call 211; refine (h4 _ hP3).mono ?_; rintro e w4 ⟨⟨n, S, rfl⟩, hP4⟩))
  have hba : Below w4.heap.size w4 (w4.alloc (.cells #[.int .i64 vt, .int .i64 n, .string S] 335)) := (Below.refl _ _).alloc (Nat.le_refl _) _
  have hT := hS w4 _ hP4 hba
  go_quiet (first | (go_at_call 212; exact quiet_c hT _) | (go_at_call 212; exact quiet_d hT _ _) | (go_at_call 212; exact quiet_e hT _ _))
  have hbq := belowN hba nq
  have hv0 : ((w4.alloc (.cells #[.int .i64 vt, .int .i64 n, .string S] 335)).drewN nq).heap[w4.heap.size]? = some (.cells #[.int .i64 vt, .int .i64 n, .string S] 335 (0, 0)) := heap_alloc_new w4 _
  have hq4 : w4.heap.size < ((w4.alloc (.cells #[.int .i64 vt, .int .i64 n, .string S] 335)).drewN nq).heap.size := by simp
  generalize (w4.alloc (.cells #[.int .i64 vt, .int .i64 n, .string S] 335)).drewN nq = wq at *
  have hk := hK w4 wq hP4 hbq
  go_wp2_with (first
    | (go_at_call 213; refine hk.mono ?_; rintro e w5 ⟨rfl, hb5⟩; have hb5' := hbq.trans (hb5.mono hbq.size))
    | (go_at_call 209; refine (hL w4 _ hP4 hb5').mono ?_; rintro e w6 ⟨p, te, pe, rfl, hR⟩))
  go_ret
  exact ⟨te, pe, rfl, hR⟩
/-- What a mask that is taken leaves. -/
def MaskPost (lb nt t c : Nat) (rs : Nat → Rl) (Q : World → Prop) (e : Ending) (w' : World) : Prop := e = .returned .nilIface ∧ ∃ w2 mv' m, Q w2 ∧ m.c = c ∧ LawAt w' lb nt (updR rs t { rs t with mv := mv', ms := (rs t).ms ++ [m] }) ∧ Kp lb w2 w'
set_option maxRecDepth 10000 in
set_option maxHeartbeats 4000000 in
theorem pmask_yes (nt t : Nat) (rs : Nat → Rl) (htn : t < nt) (hml : (rs t).ms.length ≤ 1000) (Q : World → Prop) (rb lb c : Nat) (ta : Option Addr) (tn tc : Nat) (x : List UInt8) (vt : Int) (w : World) (P2 P3 P4 : World → Prop) (hrbx : ∀ w4, P4 w4 → rb < w4.heap.size)
    (h2 : Calls Tryz.prog 210 #[.pointer (some ⟨rb, 0, none⟩)] w fun e w' => e = .returned (.tuple #[.int .i64 c, .nilIface]) ∧ P2 w')
    (h3 : ∀ w1, P2 w1 → Calls Tryz.prog 156 #[.pointer (some ⟨rb, 0, none⟩)] w1 fun e w' => e = .returned (.string (bs x)) ∧ P3 w')
    (h4 : ∀ w1, P3 w1 → Calls Tryz.prog 211 #[.pointer (some ⟨rb, 0, none⟩), .string (bs x)] w1 fun e w' => (∃ n S, e = .returned (.tuple #[.agg #[.int .i64 vt, .int .i64 n, .string S], .nilIface])) ∧ P4 w')
    (hS : ∀ w4 W, P4 w4 → Below w4.heap.size w4 W → ∀ m, Calls Tryz.prog 212 #[.slice ta tn tc, .int .i64 c] (W.drewN m) fun e w' => e = .returned (.int .i64 vt) ∧ w' = W.drewN m)
    (hK : ∀ w4 W, P4 w4 → Below w4.heap.size w4 W → Calls Tryz.prog 213 #[.pointer (some ⟨lb, t * 3, none⟩), .int .i64 c] W fun e w' => e = .returned (.bool false) ∧ Below W.heap.size W w')
    (hL : ∀ w4 W, P4 w4 → Below w4.heap.size w4 W → Calls Tryz.prog 209 #[.pointer (some ⟨rb, 0, none⟩), .slice ta tn tc] W fun e w' => (∃ b : Nat, e = .returned (.tuple #[.pointer (some ⟨b, 0, none⟩), .nilIface])) ∧ LawAt w' lb nt rs ∧ Stp rb W w' ∧ Q w') :
    Calls Tryz.prog 158 #[.pointer (some ⟨rb, 0, none⟩), .pointer (some ⟨lb, t * 3, none⟩), .slice ta tn tc] w fun e w' => MaskPost lb nt t c rs Q e w' := by
  obtain ⟨j0, hj, hy0, hy1, hy2⟩ := info_parts Tryz.infoMask
  go_enter Tryz.func158, Tryz.ntmps158
  go_wp2_with (first
    | (go_at_call 210; refine h2.mono ?_; rintro e w2 ⟨rfl, hP2⟩)
    | (go_at_call 156; refine (h3 _ hP2).mono ?_; rintro e w3 ⟨rfl, hP3⟩)
    | (go_at_call 211; refine (h4 _ hP3).mono ?_; rintro e w4 ⟨⟨n, S, rfl⟩, hP4⟩))
  have hba : Below w4.heap.size w4 (w4.alloc (.cells #[.int .i64 vt, .int .i64 n, .string S] 335)) := (Below.refl _ _).alloc (Nat.le_refl _) _
  have hT := hS w4 _ hP4 hba
  go_quiet (first | (go_at_call 212; exact quiet_c hT _) | (go_at_call 212; exact quiet_d hT _ _) | (go_at_call 212; exact quiet_e hT _ _))
  have hbq := belowN hba nq
  have hv0 : ((w4.alloc (.cells #[.int .i64 vt, .int .i64 n, .string S] 335)).drewN nq).heap[w4.heap.size]? = some (.cells #[.int .i64 vt, .int .i64 n, .string S] 335 (0, 0)) := heap_alloc_new w4 _
  have hq4 : w4.heap.size < ((w4.alloc (.cells #[.int .i64 vt, .int .i64 n, .string S] 335)).drewN nq).heap.size := by simp
  generalize (w4.alloc (.cells #[.int .i64 vt, .int .i64 n, .string S] 335)).drewN nq = wq at *
  have hk := hK w4 wq hP4 hbq
  have hrb := hrbx w4 hP4
  go_wp2_with (first
    | (go_at_call 213; refine hk.mono ?_; rintro e w5 ⟨rfl, hb5⟩; have hb5' := hbq.trans (hb5.mono hbq.size))
    | (go_at_call 209; refine (hL w4 _ hP4 hb5').mono ?_; rintro e w6 ⟨⟨b, rfl⟩, hLaw, hS6, hQ⟩))
  have hv5 := (hb5.block w4.heap.size hq4).trans hv0
  have hv6 : w6.heap[w4.heap.size]? = some (.cells #[.int .i64 vt, .int .i64 n, .string S] 335 (0, 0)) := (hS6.block w4.heap.size (by have := hb5.size; omega) (by simp; omega)).trans hv5
  obtain ⟨ma, mc, hmv, _⟩ := row_slice (hLaw.mrow t htn)
  have l1 := (hLaw.blk.cells htn).2.2
  rw [hmv] at l1
  have v0 : w6.cell? ⟨w4.heap.size, 0, none⟩ = some (.int .i64 vt) := by rw [Lib.cell_of_heap hv6]; rfl
  have v1 : w6.cell? ⟨w4.heap.size, 1, none⟩ = some (.int .i64 n) := by rw [Lib.cell_of_heap hv6]; rfl
  have v2 : w6.cell? ⟨w4.heap.size, 2, none⟩ = some (.string S) := by rw [Lib.cell_of_heap hv6]; rfl
  have hlb : lb < w6.heap.size := hLaw.lt
  clear h2 h3 h4 hS hK hL hT hba hk hrbx hbq hb5 hb5' hv0 hv5 hv6 hP2 hP3 hP4 hS6 hq4 hrb
  have hfz := hLaw.blk.frozen (t * 3 + 2)
  have HL := hidR hLaw
  have HMV := hidR hmv
  clear hLaw hmv
  have hown : (w6.alloc (.cells #[.int .i64 c, .int .i64 vt, .int .i64 n, .string S, .pointer (some ⟨b, 0, none⟩)] 340)).drew.ownsRow (lb + 1) 340 5 (.slice ma (rs t).ms.length mc) (rs t).ms.length (flatM (rs t).ms) := by
    have := ((HL.out.mrow t htn).alloc (.cells #[.int .i64 c, .int .i64 vt, .int .i64 n, .string S, .pointer (some ⟨b, 0, none⟩)] 340)).drew
    rw [HMV.out] at this; exact this
  first
    | (go_region_law ((refine step_append_lies _ (by rfl) _ _ _ (by rfl) (lb + 1) 340 j0 _ 5 48 Tryz.underlying256 hj hy0 hy1 hy2 rfl (by omega) (.slice ma (rs t).ms.length mc) (rs t).ms.length (flatM (rs t).ms) (by rfl) hown ⟨w6.heap.size, 0, none⟩ 1 1 (MRow.cells ⟨c, vt, n, S, b⟩) (by rfl) (by rfl) (World.news_of_block (cs := #[.int .i64 c, .int .i64 vt, .int .i64 n, .string S, .pointer (some ⟨b, 0, none⟩)]) (t := 340) (fr := (0, 0)) (heap_alloc_new w6 _)) (by intro u hu; simp [MRow.cells] at hu; rcases hu with rfl | rfl | rfl | rfl | rfl <;> rfl) (by omega) (by unfold maxLen; omega) (by omega) (by simp; omega) (w6.heap.size + 1) (by simp) ?_; intro gg cap5 w7 hown7 hg7 hat7 _; rw [← HMV.out] at hg7 hat7; have HQ := hidR (HL.out.mask (m := ⟨c, vt, n, S, b⟩) htn hown7 (Grew.of_drew hg7 hat7)); have q0 := (HQ.out.1.cells htn).2.2; rw [HMV.out] at q0; have qf := HQ.out.1.frozen (t * 3 + 2); clear hown7 hg7 hat7)))
    | fail
  all_goals go_wp2
  all_goals go_ret
  all_goals unfold MaskPost
  all_goals exact ⟨rfl, w6, _, ⟨c, vt, n, S, b⟩, hQ, rfl, HQ.out.2.1, HQ.out.2.2⟩
end Go.Proofs.YtnpjldffciociaaGreatDoor
