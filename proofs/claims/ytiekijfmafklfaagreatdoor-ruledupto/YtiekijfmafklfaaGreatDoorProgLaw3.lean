import Derived.Test.YtiekijfmafklfaaGreatDoorProgLaw2
namespace Go.Proofs.YtiekijfmafklfaaGreatDoor
open Go.RowKit

theorem Tryz.infoAllow : (Tryz.prog.info? 161).map (fun i => (i.zero, i.size, i.bytes)) = some (some (.agg #[.int .i64 0, .pointer none]), 2, 16) := by kernel_rfl
theorem LawAt.below {w w' : World} {lb na : Nat} {av mv : Value} {xs : List Value} {ms : List MRow} (h : LawAt w lb av mv na xs ms) (hb : Below w.heap.size w w') : LawAt w' lb av mv na xs ms := by
  have hk : ∀ {e : TypeId} {size : Nat} {v : Value} {n : Nat} {ys : List Value}, w.ownsRow (lb + 1) e size v n ys → w'.ownsRow (lb + 1) e size v n ys := fun h =>
    h.kept (row := none) ⟨hb.os, hb.tape, hb.output, hb.size, fun k hk _ => hb.block k hk⟩ (Classical.em _)
  exact ⟨(hb.block lb (Array.getElem?_eq_some_iff.1 h.blk).1).trans h.blk, hk h.arow, hk h.mrow⟩
theorem own_type {w : World} {base : Nat} {e : TypeId} {size : Nat} {v : Value} {n : Nat} {xs : List Value} (h : w.ownsRow base e size v n xs) {g : Nat} (hg : v.ownBlock = some g) : (∃ cur, w.heap[g]? = some (.cells cur e (0, 0))) ∧ base ≤ g := by
  rcases h.2 with ⟨rfl, _⟩ | ⟨g', cap, cur, rfl, hb, hh, _⟩
  · simp [Value.ownBlock] at hg
  · have : g' = g := by simpa [Value.ownBlock] using hg
    subst this
    exact ⟨⟨cur, hh⟩, hb⟩
theorem rows_apart {w : World} {v u : Value} {base base' : Nat} {e e' : TypeId} {size k size' k' : Nat} {xs xs' : List Value} (ho : w.ownsRow base e size v k xs) (ho' : w.ownsRow base' e' size' u k' xs') (he : e ≠ e') : v.ownBlock = none ∨ v.ownBlock ≠ u.ownBlock := by
  cases hv : v.ownBlock with
  | none => exact Or.inl rfl
  | some g =>
    refine Or.inr fun hg => ?_
    obtain ⟨⟨cur, hc⟩, _⟩ := own_type ho hv
    obtain ⟨⟨cur', hc'⟩, _⟩ := own_type ho' hg.symm
    have := hc.symm.trans hc'
    simp at this
    exact he this.2
theorem row_not {w : World} {lb : Nat} {cs : Array Value} {v : Value} {e : TypeId} {size n : Nat} {xs : List Value} (_h : w.heap[lb]? = some (.cells cs 95 (0, 0))) (ho : w.ownsRow (lb + 1) e size v n xs) : v.ownBlock ≠ some lb := by
  intro hg
  have := (own_type ho hg).2
  omega
/-- All below lb is as it was, and so are all rows of strings. -/
structure Kp (lb : Nat) (w w' : World) : Prop where
  bel : Below lb w w'
  str : ∀ (k : Nat) (cs : Array Value) (fz : Nat × Nat), w.heap[k]? = some (.cells cs 9 fz) → w'.heap[k]? = some (.cells cs 9 fz)
theorem Kp.trans {lb : Nat} {a b c : World} (h : Kp lb a b) (k : Kp lb b c) : Kp lb a c := ⟨h.bel.trans k.bel, fun i cs fz hi => k.str i cs fz (h.str i cs fz hi)⟩
theorem Kp.of_below {lb : Nat} {w w' : World} (h : Below w.heap.size w w') (hl : lb ≤ w.heap.size) : Kp lb w w' := ⟨h.mono hl, fun i _ _ hi => (h.block i (Array.getElem?_eq_some_iff.1 hi).1).trans hi⟩
/-- One rule more. -/
theorem LawAt.allow {w2 w3 : World} {lb na : Nat} {av mv av' : Value} {xs us : List Value} {ms : List MRow} {o : Obj} (h : LawAt w2 lb av mv na xs ms) (hrow : w3.ownsRow (lb + 1) 161 2 av' (na + 1) (xs ++ us)) (hg : (w2.alloc o).grownBy w3 av.ownBlock) :
    w3.heap[lb]? = some (.cells #[av, mv] 95 (0, 0)) ∧ LawAt (w3.setCell ⟨lb, 0, none⟩ av') lb av' mv (na + 1) (xs ++ us) ms ∧ Kp lb w2 (w3.setCell ⟨lb, 0, none⟩ av') := by
  have hba : Below w2.heap.size w2 (w2.alloc o) := (Below.refl _ _).alloc (Nat.le_refl _) _
  have ha := h.below hba
  have hlt : lb < w2.heap.size := (Array.getElem?_eq_some_iff.1 h.blk).1
  have hb3 : w3.heap[lb]? = some (.cells #[av, mv] 95 (0, 0)) := (hg.block lb (by simp; omega) (fun e => row_not ha.blk ha.arow e.symm)).trans ha.blk
  have hset : w3.grownBy (w3.setCell ⟨lb, 0, none⟩ av') (some lb) := ⟨rfl, rfl, rfl, by simp [World.setCell], fun k _ hk => Below.heap_setCell _ _ _ _ (fun e => hk (by simp [e]))⟩
  have hm3 : w3.ownsRow (lb + 1) 169 6 mv ms.length (flatM ms) := ha.mrow.kept hg (rows_apart ha.mrow ha.arow (by decide))
  refine ⟨hb3, ⟨by simp [World.setCell, Array.getElem?_modify, hb3], hrow.kept hset (Or.inr (row_not hb3 hrow)), hm3.kept hset (Or.inr (row_not hb3 hm3))⟩, ?_⟩
  refine ⟨(((Below.refl lb w2).alloc (by omega) o).grown hg (by simp; omega) ?_).setCell (p := ⟨lb, 0, none⟩) (Nat.le_refl _) _, fun k cs fz hk => ?_⟩
  · intro k hk
    have := (own_type ha.arow hk).2
    omega
  · have hk2 : k < w2.heap.size := (Array.getElem?_eq_some_iff.1 hk).1
    have hka := (hba.block k hk2).trans hk
    have hk3 : w3.heap[k]? = some (.cells cs 9 fz) := (hg.block k (by simp; omega) (fun e => by
      obtain ⟨⟨cur, hc⟩, _⟩ := own_type ha.arow e.symm
      have := hka.symm.trans hc
      simp at this)).trans hka
    refine (Below.heap_setCell _ _ _ _ fun e => ?_).trans hk3
    simp at e
    subst e
    have := hk.symm.trans h.blk
    simp at this

set_option maxRecDepth 10000 in
set_option maxHeartbeats 1000000 in
theorem pallow_table (rb lb : Nat) (w : World) (R : Value → World → Prop)
    (h1 : Calls Tryz.prog 86 #[.pointer (some ⟨rb, 0, none⟩)] w fun e w' => ∃ te pe, e = .returned (.tuple #[.int .i64 0, .iface te pe]) ∧ R (.iface te pe) w') :
    Calls Tryz.prog 58 #[.pointer (some ⟨rb, 0, none⟩), .pointer (some ⟨lb, 0, none⟩)] w fun e w' => ∃ te pe, e = .returned (.iface te pe) ∧ R (.iface te pe) w' := by
  go_enter Tryz.func58, Tryz.ntmps58
  go_wp2_with (go_at_call 86; refine h1.mono ?_; rintro e w1 ⟨te, pe, rfl, hR⟩)
  go_ret
  exact ⟨te, pe, rfl, hR⟩
set_option maxRecDepth 10000 in
set_option maxHeartbeats 1000000 in
theorem pallow_last (rb lb t : Nat) (w : World) (P : World → Prop) (R : Value → World → Prop)
    (h1 : Calls Tryz.prog 86 #[.pointer (some ⟨rb, 0, none⟩)] w fun e w' => e = .returned (.tuple #[.int .i64 t, .nilIface]) ∧ P w')
    (h2 : ∀ w1, P w1 → Calls Tryz.prog 87 #[.pointer (some ⟨rb, 0, none⟩), .int .i64 t] w1 fun e w' => ∃ p te pe, e = .returned (.tuple #[.pointer p, .iface te pe]) ∧ R (.iface te pe) w') :
    Calls Tryz.prog 58 #[.pointer (some ⟨rb, 0, none⟩), .pointer (some ⟨lb, 0, none⟩)] w fun e w' => ∃ te pe, e = .returned (.iface te pe) ∧ R (.iface te pe) w' := by
  go_enter Tryz.func58, Tryz.ntmps58
  go_wp2_with (first
    | (go_at_call 86; refine h1.mono ?_; rintro e w1 ⟨rfl, hP⟩)
    | (go_at_call 87; refine (h2 _ hP).mono ?_; rintro e w2 ⟨p, te, pe, rfl, hR⟩))
  go_ret
  exact ⟨te, pe, rfl, hR⟩
set_option maxRecDepth 10000 in
set_option maxHeartbeats 2000000 in
theorem pallow_yes (rb lb t na : Nat) (av mv : Value) (xs : List Value) (ms : List MRow) (w : World) (P : World → Prop) (Q : World → Prop) (hna : na ≤ 1000)
    (h1 : Calls Tryz.prog 86 #[.pointer (some ⟨rb, 0, none⟩)] w fun e w' => e = .returned (.tuple #[.int .i64 t, .nilIface]) ∧ P w')
    (h2 : ∀ w1, P w1 → Calls Tryz.prog 87 #[.pointer (some ⟨rb, 0, none⟩), .int .i64 t] w1 fun e w' => (∃ b : Nat, e = .returned (.tuple #[.pointer (some ⟨b, 0, none⟩), .nilIface])) ∧ LawAt w' lb av mv na xs ms ∧ Q w') :
    Calls Tryz.prog 58 #[.pointer (some ⟨rb, 0, none⟩), .pointer (some ⟨lb, 0, none⟩)] w fun e w' => e = .returned .nilIface ∧ ∃ w2 av' xs', Q w2 ∧ LawAt w' lb av' mv (na + 1) xs' ms ∧ Kp lb w2 w' := by
  obtain ⟨j0, hj, hy0, hy1, hy2⟩ := info_parts Tryz.infoAllow
  go_enter Tryz.func58, Tryz.ntmps58
  go_wp2_with (first
    | (go_at_call 86; refine h1.mono ?_; rintro e w1 ⟨rfl, hP⟩)
    | (go_at_call 87; refine (h2 _ hP).mono ?_; rintro e w2 ⟨⟨b, rfl⟩, hL, hQ⟩; obtain ⟨aa, ac, rfl, _⟩ := row_slice hL.arow; have k0 : w2.cell? ⟨lb, 0, none⟩ = some (.slice aa na ac) := (by rw [Lib.cell_of_heap hL.blk]; rfl); have hlb : lb < w2.heap.size := (Array.getElem?_eq_some_iff.1 hL.blk).1)
    | (at_builtin; refine wpList_append_own_at _ rfl _ _ 92 rfl (lb + 1) 161 j0 (.agg #[.int .i64 0, .pointer none]) 2 16 Tryz.underlying92 hj hy0 hy1 hy2 rfl (by decide) _ _ _ rfl (hL.arow.alloc _) ⟨w2.heap.size, 0, none⟩ 1 1 [.int .i64 t, .pointer (some ⟨b, 0, none⟩)] rfl rfl ?ha0 ?ha ?hb ?hc ?hd ?_; (case ha0 => intro j u hj; match j, hj with
        | 0, hj => simp at hj; subst hj; simp [Addr.add]
        | 1, hj => simp at hj; subst hj; simp [Addr.add]); (case ha => intro u hu; simp at hu; rcases hu with rfl | rfl <;> rfl); (case hb => unfold maxLen; omega); (case hc => omega); (case hd => simp; omega); intro av' w3 hrow hg _ _; obtain ⟨q1, q2, q3⟩ := hL.allow hrow hg; have q0 : w3.cell? ⟨lb, 0, none⟩ = some (.slice aa na ac) := (by rw [Lib.cell_of_heap q1]; rfl); have qf := Lib.frozen_of_heap q1 0; obtain ⟨pa, pc, rfl, _⟩ := row_slice hrow))
  go_ret
  exact ⟨rfl, w2, _, _, hQ, q2, q3⟩
end Go.Proofs.YtiekijfmafklfaaGreatDoor
