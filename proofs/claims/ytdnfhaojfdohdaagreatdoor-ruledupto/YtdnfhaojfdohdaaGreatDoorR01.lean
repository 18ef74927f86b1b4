import Derived.Test.YtdnfhaojfdohdaaGreatDoorB26
import Derived.Deep.RegionWith
namespace Go.Proofs.YtdnfhaojfdohdaaGreatDoor
open Go.RowKit

set_option maxRecDepth 10000 in
set_option maxHeartbeats 1000000 in
theorem plast_cond (rb t : Nat) (w : World) (R : Value → World → Prop)
    (h1 : Calls Tryz.prog 234 #[.pointer (some ⟨rb, 0, none⟩)] w fun e w' => ∃ te pe, e = .returned (.tuple #[.pointer none, .iface te pe]) ∧ R (.iface te pe) w') :
    Calls Tryz.prog 202 #[.pointer (some ⟨rb, 0, none⟩), .int .i64 t] w fun e w' => ∃ te pe, e = .returned (.tuple #[.pointer none, .iface te pe]) ∧ R (.iface te pe) w' := by
  go_enter Tryz.func202, Tryz.ntmps202
  go_wp2_with (go_at_call 234; refine h1.mono ?_; rintro e w1 ⟨te, pe, rfl, hR⟩)
  go_ret2
  exact ⟨te, pe, rfl, hR⟩
set_option maxRecDepth 10000 in
set_option maxHeartbeats 1000000 in
theorem plast_fit (rb t sb soff sn scap : Nat) (tv : Value) (w : World) (P : Nat → World → Prop) (R : Value → World → Prop) (ht : t < sn) (_hsn : sn ≤ 1048577)
    (h1 : Calls Tryz.prog 234 #[.pointer (some ⟨rb, 0, none⟩)] w fun e w' => ∃ b, e = .returned (.tuple #[.pointer (some ⟨b, 0, none⟩), .nilIface]) ∧ w'.cell? ⟨rb, 0, none⟩ = some (.slice (some ⟨sb, soff, none⟩) sn scap) ∧ w'.cell? ⟨sb, soff + t * 2 + 1, none⟩ = some tv ∧ P b w')
    (h2 : ∀ b w1, P b w1 → Calls Tryz.prog 235 #[.pointer (some ⟨rb, 0, none⟩), .pointer (some ⟨b, 0, none⟩), tv] w1 fun e w' => ∃ te pe, e = .returned (.iface te pe) ∧ R (.iface te pe) w') :
    Calls Tryz.prog 202 #[.pointer (some ⟨rb, 0, none⟩), .int .i64 t] w fun e w' => ∃ te pe, e = .returned (.tuple #[.pointer none, .iface te pe]) ∧ R (.iface te pe) w' := by
  have hi : 0 ≤ (t : Int) ∧ (t : Int) < sn := by omega
  go_enter Tryz.func202, Tryz.ntmps202
  go_wp2_with (first
    | (go_at_call 234; refine h1.mono ?_; rintro e w1 ⟨b, rfl, k0, k1, hP⟩)
    | (go_at_call 235; refine (h2 _ _ hP).mono ?_; rintro e w2 ⟨te, pe, rfl, hR⟩))
  go_ret2
  exact ⟨te, pe, rfl, hR⟩
set_option maxRecDepth 10000 in
set_option maxHeartbeats 1000000 in
theorem plast_end (rb t sb soff sn scap : Nat) (tv : Value) (w : World) (P : Nat → World → Prop) (P2 : Nat → World → Prop) (R : Value → World → Prop) (ht : t < sn) (_hsn : sn ≤ 1048577)
    (h1 : Calls Tryz.prog 234 #[.pointer (some ⟨rb, 0, none⟩)] w fun e w' => ∃ b, e = .returned (.tuple #[.pointer (some ⟨b, 0, none⟩), .nilIface]) ∧ w'.cell? ⟨rb, 0, none⟩ = some (.slice (some ⟨sb, soff, none⟩) sn scap) ∧ w'.cell? ⟨sb, soff + t * 2 + 1, none⟩ = some tv ∧ P b w')
    (h2 : ∀ b w1, P b w1 → Calls Tryz.prog 235 #[.pointer (some ⟨rb, 0, none⟩), .pointer (some ⟨b, 0, none⟩), tv] w1 fun e w' => e = .returned .nilIface ∧ P2 b w')
    (h3 : ∀ b w1, P2 b w1 → Calls Tryz.prog 95 #[.pointer (some ⟨rb, 0, none⟩)] w1 fun e w' => ∃ v, e = .returned v ∧ R v w') :
    Calls Tryz.prog 202 #[.pointer (some ⟨rb, 0, none⟩), .int .i64 t] w fun e w' => ∃ b v, e = .returned (.tuple #[.pointer (some ⟨b, 0, none⟩), v]) ∧ R v w' := by
  have hi : 0 ≤ (t : Int) ∧ (t : Int) < sn := by omega
  go_enter Tryz.func202, Tryz.ntmps202
  go_wp2_with (first
    | (go_at_call 234; refine h1.mono ?_; rintro e w1 ⟨b, rfl, k0, k1, hP⟩)
    | (go_at_call 235; refine (h2 _ _ hP).mono ?_; rintro e w2 ⟨rfl, hP2⟩)
    | (go_at_call 95; refine (h3 _ _ hP2).mono ?_; rintro e w3 ⟨v, rfl, hR⟩))
  go_ret2
  exact ⟨b, v, rfl, hR⟩

def LastAns (w0 w : World) (ok : Bool) (errno : Int) (e : Ending) (w' : World) : Prop :=
  (if ok then ∃ b : Nat, e = .returned (.tuple #[.pointer (some ⟨b, 0, none⟩), .nilIface]) else ∃ p te pe, e = .returned (.tuple #[.pointer p, .iface te pe]) ∧ Err w' errno (.iface te pe)) ∧ Stp w0.heap.size w w'
/-- The condition with which a rule ends. -/
theorem xlast (w0 w : World) (vs vw : Value) (ts : List (List UInt8 × List Bool)) (ws : List (List UInt8)) (taken t : Nat) (errno : Int) (rule : Bool) (hg : Glob w0) (hs : ReadsTabs tcode w0 vs ts) (hl : ts.length ≤ 1048577) (hlc : ∀ t, (ts.getD t ([], [])).2.length ≤ 9)
    (htl : t < ts.length) (hX : RX w0 w vs vw ws taken errno rule) (htk : taken ≤ ws.length) :
    Calls Tryz.prog 202 #[.pointer (some ⟨w0.heap.size, 0, none⟩), .int .i64 t] w fun e w' => LastAns w0 w (condAt ts (ts.getD t ([], [])).2 rule ws taken (ws.length - taken)) errno e w' := by
  have hcond := xcond w0 vs vw ts ws errno rule hg hs hl (ws.length + 1) w taken (by omega) htk hX
  rw [condAt_parse ts (ts.getD t ([], [])).2 rule ws (hlc t) hlc taken (ws.length + 1) (by omega) htk]
  cases hp : parseC ts rule ws (ws.length + 1) taken with
  | none =>
    rw [hp] at hcond
    refine (plast_cond _ t w (fun v w' => Err w' errno v ∧ Stp w0.heap.size w w') (hcond.mono ?_)).mono ?_
    · rintro e w' ⟨⟨te, pe, rfl, hE⟩, hS⟩; exact ⟨te, pe, rfl, hE, hS⟩
    · rintro e w' ⟨te, pe, rfl, hE, hS⟩
      exact ⟨by simpa using ⟨none, te, pe, ⟨rfl, rfl, rfl⟩, hE⟩, hS⟩
  | some p =>
    obtain ⟨c, j⟩ := p
    rw [hp] at hcond
    have hok := parse_ok ts rule ws _ _ _ _ hp
    obtain ⟨pl1, pl2, _⟩ := parse_len ts rule ws _ _ _ _ hp
    have he : ts.getD t ([], []) = ts[t] := by simp [List.getD, htl]
    obtain ⟨a0, cap0, hvs, hrow⟩ := id hs
    obtain ⟨sb, soff, tv, ha0, hsb, _, hc2, hrd⟩ := hrow t ts[t] (List.getElem?_eq_getElem htl)
    have h1 : Calls Tryz.prog 234 #[.pointer (some ⟨w0.heap.size, 0, none⟩)] w fun e w' => ∃ b, e = .returned (.tuple #[.pointer (some ⟨b, 0, none⟩), .nilIface]) ∧ w'.cell? ⟨w0.heap.size, 0, none⟩ = some (.slice (some ⟨sb, soff, none⟩) ts.length cap0) ∧ w'.cell? ⟨sb, soff + t * 2 + 1, none⟩ = some tv ∧
        (CndAt w'.heap.size w' c w.heap.size b ∧ RX w0 w' vs vw ws j errno rule ∧ Stp w0.heap.size w w') := by
      refine hcond.mono ?_
      rintro e w' ⟨⟨b, rfl, hC, hX'⟩, hS⟩
      refine ⟨b, rfl, ?_, (hX'.bel.cell (p := ⟨sb, soff + t * 2 + 1, none⟩) hsb).trans hc2, hC, hX', hS⟩
      rw [← ha0, ← hvs]; exact hX'.rd.c0
    have h2 := fun (b : Nat) w1 (hP : CndAt w1.heap.size w1 c w.heap.size b ∧ RX w0 w1 vs vw ws j errno rule ∧ Stp w0.heap.size w w1) => xfit w0 vs vw tv ts ts[t].2 ws j errno rule hs hl (fun q => Nat.le_trans (hlc q) (by decide)) hrd (by rw [← he]; exact Nat.le_trans (hlc t) (by decide)) c w1 _ _ b hP.2.1 (Nat.le_refl _) hP.1 hok
    rw [he]
    simp only
    cases hf : fitC ts ts[t].2 c with
    | false =>
      rw [hf] at h2
      refine (plast_fit _ t sb soff _ cap0 tv w _ (fun v w' => Err w' errno v ∧ Stp w0.heap.size w w') htl hl h1 fun b w1 hP => (h2 b w1 hP).mono ?_).mono ?_
      · rintro e w' ⟨hA, hb⟩
        obtain ⟨te, pe, rfl, hE⟩ : ∃ te pe, e = .returned (.iface te pe) ∧ Err w' errno (.iface te pe) := by simpa [FitAns] using hA
        exact ⟨te, pe, rfl, hE, hP.2.2.trans (Stp.of_below hb)⟩
      · rintro e w' ⟨te, pe, rfl, hE, hS⟩
        exact ⟨by simpa using ⟨none, te, pe, ⟨rfl, rfl, rfl⟩, hE⟩, hS⟩
    | true =>
      rw [hf] at h2
      have h2' : ∀ (b : Nat) w1, (CndAt w1.heap.size w1 c w.heap.size b ∧ RX w0 w1 vs vw ws j errno rule ∧ Stp w0.heap.size w w1) → Calls Tryz.prog 235 #[.pointer (some ⟨w0.heap.size, 0, none⟩), .pointer (some ⟨b, 0, none⟩), tv] w1 fun e w' => e = .returned .nilIface ∧ RX w0 w' vs vw ws j errno rule ∧ Stp w0.heap.size w w' := fun b w1 hP => (h2 b w1 hP).mono fun e w' ⟨hA, hb⟩ =>
        ⟨by simpa [FitAns] using hA, hP.2.1.below hb, hP.2.2.trans (Stp.of_below hb)⟩
      refine (plast_end _ t sb soff _ cap0 tv w _ (fun _ w' => RX w0 w' vs vw ws j errno rule ∧ Stp w0.heap.size w w') (fun v w' => (if ws.length ≤ j then v = .nilIface else ∃ te pe, v = .iface te pe ∧ Err w' errno (.iface te pe)) ∧ Stp w0.heap.size w w') htl hl h1 h2' fun b w1 hP => (xend w0 w1 vs vw ws j errno rule hP.1).mono ?_).mono ?_
      · rintro e w' ⟨hA, hb⟩
        by_cases hj : ws.length ≤ j
        · rw [if_pos hj] at hA; subst hA
          exact ⟨_, rfl, by rw [if_pos hj], hP.2.trans (Stp.of_below hb)⟩
        · rw [if_neg hj] at hA
          obtain ⟨te, pe, rfl, hE⟩ := hA
          exact ⟨_, rfl, by rw [if_neg hj]; exact ⟨te, pe, rfl, hE⟩, hP.2.trans (Stp.of_below hb)⟩
      · rintro e w' ⟨b, v, rfl, hA, hS⟩
        refine ⟨?_, hS⟩
        by_cases hj : ws.length ≤ j
        · rw [if_pos hj] at hA; subst hA
          have : j = ws.length := by omega
          simp [this]
        · rw [if_neg hj] at hA
          obtain ⟨te, pe, rfl, hE⟩ := hA
          have : ¬ j = ws.length := by omega
          simp only [this, decide_false, Bool.and_false, Bool.false_eq_true, if_false]
          exact ⟨_, te, pe, rfl, hE⟩
end Go.Proofs.YtdnfhaojfdohdaaGreatDoor
namespace Go.Proofs.YtdnfhaojfdohdaaGreatDoor
open Go.RowKit

/-- A mask's six cells. -/
structure MRow where
  t : Nat
  c : Nat
  vt : Int
  vn : Int
  vs : ByteArray
  cp : Nat
def MRow.cells (m : MRow) : List Value := [.int .i64 m.t, .int .i64 m.c, .int .i64 m.vt, .int .i64 m.vn, .string m.vs, .pointer (some ⟨m.cp, 0, none⟩)]
def flatM (ms : List MRow) : List Value := ms.flatMap MRow.cells
theorem flatM_length (ms : List MRow) : (flatM ms).length = ms.length * 6 := by
  induction ms with
  | nil => rfl
  | cons m ms ih =>
    have : flatM (m :: ms) = m.cells ++ flatM ms := by simp [flatM]
    rw [this, List.length_append, ih]
    simp [MRow.cells]; omega
theorem flatM_at (ms : List MRow) : ∀ (i : Nat) (h : i < ms.length) (j : Nat), j < 6 → (flatM ms)[i * 6 + j]? = (ms[i].cells)[j]? := by
  induction ms with
  | nil => intro i h; simp at h
  | cons m ms ih =>
    intro i h j hj
    have he : flatM (m :: ms) = m.cells ++ flatM ms := by simp [flatM]
    have hl : m.cells.length = 6 := rfl
    rw [he]
    cases i with
    | zero => rw [List.getElem?_append_left (by rw [hl]; omega)]; simp
    | succ i =>
      rw [List.getElem?_append_right (by rw [hl]; omega), hl]
      have := ih i (by simpa using h) j hj
      rw [show (i + 1) * 6 + j - 6 = i * 6 + j by omega]
      simpa using this
/-- The law, as far as it was read. -/
structure LawAt (w : World) (lb : Nat) (av mv : Value) (na : Nat) (xs : List Value) (ms : List MRow) : Prop where
  blk : w.heap[lb]? = some (.cells #[av, mv] 187 (0, 0))
  arow : w.ownsRow (lb + 1) 323 2 av na xs
  mrow : w.ownsRow (lb + 1) 331 6 mv ms.length (flatM ms)
def hasMask (ms : List MRow) (t c : Nat) : Bool := ms.any fun m => decide (m.t = t) && decide (m.c = c)
theorem hasMask_take {ms : List MRow} {k t c : Nat} (hk : k < ms.length) (h : hasMask (ms.take k) t c = false) (hn : ¬ (ms[k].t = t ∧ ms[k].c = c)) : hasMask (ms.take (k + 1)) t c = false := by
  unfold hasMask at *
  rw [List.take_succ_eq_append_getElem hk, List.any_append, h]
  simp
  intro h1 h2; exact hn ⟨h1, h2⟩
theorem hasMask_hit {ms : List MRow} {k t c : Nat} (hk : k < ms.length) (hn : ms[k].t = t ∧ ms[k].c = c) : hasMask ms t c = true := by
  unfold hasMask
  rw [List.any_eq_true]
  exact ⟨ms[k], List.getElem_mem hk, by simp [hn]⟩

set_option maxRecDepth 10000 in
set_option maxHeartbeats 2000000 in
theorem pmasked (w : World) (lb t c na : Nat) (av mv : Value) (xs : List Value) (ms : List MRow) (h : LawAt w lb av mv na xs ms) (hl : ms.length ≤ 1000) :
    Calls Tryz.prog 206 #[.pointer (some ⟨lb, 0, none⟩), .int .i64 t, .int .i64 c] w fun e w' => e = .returned (.bool (hasMask ms t c)) ∧ Below w.heap.size w w' := by
  obtain ⟨va, vc, rfl, hva⟩ := row_slice h.mrow
  have c1 : w.cell? ⟨lb, 1, none⟩ = some (.slice va ms.length vc) := by rw [Lib.cell_of_heap h.blk]; rfl
  have HM := hidR h
  have HV := hidR hva
  clear h hva
  go_enter Tryz.func206, Tryz.ntmps206
  go_wp2
  go_loopw [14] (fun i wr => ∃ k : Nat, k ≤ ms.length ∧ i = .int .i64 k ∧ Hid (Below w.heap.size w wr) ∧ Hid (hasMask (ms.take k) t c = false)) (fun i _ => ms.length - (intOf i).toNat)
  case atStart => exact ⟨0, by omega, rfl, hidR (Below.refl _ _), hidR rfl⟩
  case round =>
    obtain ⟨k, hk, rfl, HB, HN⟩ := hrel
    have hws := HB.out.size
    by_cases hlt : k < ms.length
    · obtain ⟨g, rfl⟩ := HV.out (by omega)
      have hgl := (HM.out.mrow.lt g rfl).2
      have hcell : ∀ j, j < 6 → wr.cell? ⟨g, k * 6 + j, none⟩ = (ms[k].cells)[j]? := by
        intro j hj
        have hf := flatM_at ms k hlt j hj
        have h6 : j < ms[k].cells.length := hj
        rw [List.getElem?_eq_getElem h6] at hf ⊢
        have := HM.out.mrow.cells (g := g) rfl (k * 6 + j) _ hf
        rw [HB.out.cell (p := ⟨g, k * 6 + j, none⟩) hgl, ← this]
        congr 1
        simp [Addr.add]
      have f0 : wr.cell? ⟨g, k * 6, none⟩ = some (.int .i64 ms[k].t) := hcell 0 (by omega)
      have f1 : wr.cell? ⟨g, k * 6 + 1, none⟩ = some (.int .i64 ms[k].c) := hcell 1 (by omega)
      have f2 : wr.cell? ⟨g, k * 6 + 2, none⟩ = some (.int .i64 ms[k].vt) := hcell 2 (by omega)
      have f3 : wr.cell? ⟨g, k * 6 + 3, none⟩ = some (.int .i64 ms[k].vn) := hcell 3 (by omega)
      have f4 : wr.cell? ⟨g, k * 6 + 4, none⟩ = some (.string ms[k].vs) := hcell 4 (by omega)
      have f5 : wr.cell? ⟨g, k * 6 + 5, none⟩ = some (.pointer (some ⟨ms[k].cp, 0, none⟩)) := hcell 5 (by omega)
      have hgr : g < wr.heap.size := by omega
      clear hcell
      by_cases h1 : ms[k].t = t
      · by_cases h2 : ms[k].c = c
        · have hhit := hidR (hasMask_hit hlt ⟨h1, h2⟩)
          rw [h1] at f0
          rw [h2] at f1
          go_wp2
          go_ret
          exact ⟨ret_bool hhit.out.symm, HB.out.alloc hws _⟩
        · have hnx := hidR (hasMask_take hlt HN.out (fun e => h2 e.2))
          rw [h1] at f0
          go_wp2
          exact ⟨⟨k + 1, by omega, by go_num, hidR (HB.out.alloc hws _), hnx⟩, by simp [intOf]; omega⟩
      · have hnx := hidR (hasMask_take hlt HN.out (fun e => h1 e.1))
        go_wp2
        exact ⟨⟨k + 1, by omega, by go_num, hidR (HB.out.alloc hws _), hnx⟩, by simp [intOf]; omega⟩
    · have hkk : k = ms.length := by omega
      subst hkk
      go_wp2
      go_ret
      exact ⟨ret_bool (by rw [← HN.out, List.take_length]), HB.out⟩
end Go.Proofs.YtdnfhaojfdohdaaGreatDoor
namespace Go.Proofs.YtdnfhaojfdohdaaGreatDoor
open Go.RowKit

theorem Tryz.infoAllow : (Tryz.prog.info? 323).map (fun i => (i.zero, i.size, i.bytes)) = some (some (.agg #[.int .i64 0, .pointer none]), 2, 16) := by kernel_rfl
theorem LawAt.below {w w' : World} {lb na : Nat} {av mv : Value} {xs : List Value} {ms : List MRow} (h : LawAt w lb av mv na xs ms) (hb : Below w.heap.size w w') : LawAt w' lb av mv na xs ms := by
  have hk : ∀ {e : TypeId} {size : Nat} {v : Value} {n : Nat} {ys : List Value}, w.ownsRow (lb + 1) e size v n ys → w'.ownsRow (lb + 1) e size v n ys := fun h =>
    h.kept (row := none) ⟨hb.os, hb.tape, hb.output, hb.size, fun k hk _ => hb.block k hk⟩ (Classical.em _)
  exact ⟨(hb.block lb (Array.getElem?_eq_some_iff.1 h.blk).1).trans h.blk, hk h.arow, hk h.mrow⟩
theorem own_type {w : World} {base : Nat} {e : TypeId} {size : Nat} {v : Value} {n : Nat} {xs : List Value} (h : w.ownsRow base e size v n xs) {g : Nat} (hg : v.ownBlock = some g) : (∃ cur, w.heap[g]? = some (.cells cur e (0, 0))) ∧ base ≤ g := by
  rcases h.2 with ⟨rfl, _⟩ | ⟨g', cap, cur, rfl, hb, hh, _⟩
  · simp [Value.ownBlock] at hg
  · have : g' = g := by simpa [Value.ownBlock] using hg
    subst this
    exact ⟨⟨cur, hh⟩, hb⟩
theorem rows_apart {w : World} {v u : Value} {base base' : Nat} {e e' : TypeId} {size k size' k' : Nat} {xs xs' : List Value} (ho : w.ownsRow base e size v k xs) (ho' : w.ownsRow base' e' size' u k' xs') (he : e ≠ e') : v.ownBlock = none ∨ v.ownBlock ≠ u.ownBlock := by
  cases hv : v.ownBlock with
  | none => exact Or.inl rfl
  | some g =>
    refine Or.inr fun hg => ?_
    obtain ⟨⟨cur, hc⟩, _⟩ := own_type ho hv
    obtain ⟨⟨cur', hc'⟩, _⟩ := own_type ho' hg.symm
    have := hc.symm.trans hc'
    simp at this
    exact he this.2
theorem row_not {w : World} {lb : Nat} {cs : Array Value} {v : Value} {e : TypeId} {size n : Nat} {xs : List Value} (_h : w.heap[lb]? = some (.cells cs 187 (0, 0))) (ho : w.ownsRow (lb + 1) e size v n xs) : v.ownBlock ≠ some lb := by
  intro hg
  have := (own_type ho hg).2
  omega
/-- All below lb is as it was, and so are all rows of strings. -/
structure Kp (lb : Nat) (w w' : World) : Prop where
  bel : Below lb w w'
  str : ∀ (k : Nat) (cs : Array Value) (fz : Nat × Nat), w.heap[k]? = some (.cells cs 9 fz) → w'.heap[k]? = some (.cells cs 9 fz)
theorem Kp.trans {lb : Nat} {a b c : World} (h : Kp lb a b) (k : Kp lb b c) : Kp lb a c := ⟨h.bel.trans k.bel, fun i cs fz hi => k.str i cs fz (h.str i cs fz hi)⟩
theorem Kp.of_below {lb : Nat} {w w' : World} (h : Below w.heap.size w w') (hl : lb ≤ w.heap.size) : Kp lb w w' := ⟨h.mono hl, fun i _ _ hi => (h.block i (Array.getElem?_eq_some_iff.1 hi).1).trans hi⟩
/-- One rule more. -/
theorem LawAt.allow {w2 w3 : World} {lb na : Nat} {av mv av' : Value} {xs us : List Value} {ms : List MRow} {o : Obj} (h : LawAt w2 lb av mv na xs ms) (hrow : w3.ownsRow (lb + 1) 323 2 av' (na + 1) (xs ++ us)) (hg : (w2.alloc o).grownBy w3 av.ownBlock) :
    w3.heap[lb]? = some (.cells #[av, mv] 187 (0, 0)) ∧ LawAt (w3.setCell ⟨lb, 0, none⟩ av') lb av' mv (na + 1) (xs ++ us) ms ∧ Kp lb w2 (w3.setCell ⟨lb, 0, none⟩ av') := by
  have hba : Below w2.heap.size w2 (w2.alloc o) := (Below.refl _ _).alloc (Nat.le_refl _) _
  have ha := h.below hba
  have hlt : lb < w2.heap.size := (Array.getElem?_eq_some_iff.1 h.blk).1
  have hb3 : w3.heap[lb]? = some (.cells #[av, mv] 187 (0, 0)) := (hg.block lb (by simp; omega) (fun e => row_not ha.blk ha.arow e.symm)).trans ha.blk
  have hset : w3.grownBy (w3.setCell ⟨lb, 0, none⟩ av') (some lb) := ⟨rfl, rfl, rfl, by simp [World.setCell], fun k _ hk => Below.heap_setCell _ _ _ _ (fun e => hk (by simp [e]))⟩
  have hm3 : w3.ownsRow (lb + 1) 331 6 mv ms.length (flatM ms) := ha.mrow.kept hg (rows_apart ha.mrow ha.arow (by decide))
  refine ⟨hb3, ⟨by simp [World.setCell, Array.getElem?_modify, hb3], hrow.kept hset (Or.inr (row_not hb3 hrow)), hm3.kept hset (Or.inr (row_not hb3 hm3))⟩, ?_⟩
  refine ⟨(((Below.refl lb w2).alloc (by omega) o).grown hg (by simp; omega) ?_).setCell (p := ⟨lb, 0, none⟩) (Nat.le_refl _) _, fun k cs fz hk => ?_⟩
  · intro k hk
    have := (own_type ha.arow hk).2
    omega
  · have hk2 : k < w2.heap.size := (Array.getElem?_eq_some_iff.1 hk).1
    have hka := (hba.block k hk2).trans hk
    have hk3 : w3.heap[k]? = some (.cells cs 9 fz) := (hg.block k (by simp; omega) (fun e => by
      obtain ⟨⟨cur, hc⟩, _⟩ := own_type ha.arow e.symm
      have := hka.symm.trans hc
      simp at this)).trans hka
    refine (Below.heap_setCell _ _ _ _ fun e => ?_).trans hk3
    simp at e
    subst e
    have := hk.symm.trans h.blk
    simp at this

set_option maxRecDepth 10000 in
set_option maxHeartbeats 1000000 in
theorem pallow_table (rb lb : Nat) (w : World) (R : Value → World → Prop)
    (h1 : Calls Tryz.prog 201 #[.pointer (some ⟨rb, 0, none⟩)] w fun e w' => ∃ te pe, e = .returned (.tuple #[.int .i64 0, .iface te pe]) ∧ R (.iface te pe) w') :
    Calls Tryz.prog 152 #[.pointer (some ⟨rb, 0, none⟩), .pointer (some ⟨lb, 0, none⟩)] w fun e w' => ∃ te pe, e = .returned (.iface te pe) ∧ R (.iface te pe) w' := by
  go_enter Tryz.func152, Tryz.ntmps152
  go_wp2_with (go_at_call 201; refine h1.mono ?_; rintro e w1 ⟨te, pe, rfl, hR⟩)
  go_ret
  exact ⟨te, pe, rfl, hR⟩
set_option maxRecDepth 10000 in
set_option maxHeartbeats 1000000 in
theorem pallow_last (rb lb t : Nat) (w : World) (P : World → Prop) (R : Value → World → Prop)
    (h1 : Calls Tryz.prog 201 #[.pointer (some ⟨rb, 0, none⟩)] w fun e w' => e = .returned (.tuple #[.int .i64 t, .nilIface]) ∧ P w')
    (h2 : ∀ w1, P w1 → Calls Tryz.prog 202 #[.pointer (some ⟨rb, 0, none⟩), .int .i64 t] w1 fun e w' => ∃ p te pe, e = .returned (.tuple #[.pointer p, .iface te pe]) ∧ R (.iface te pe) w') :
    Calls Tryz.prog 152 #[.pointer (some ⟨rb, 0, none⟩), .pointer (some ⟨lb, 0, none⟩)] w fun e w' => ∃ te pe, e = .returned (.iface te pe) ∧ R (.iface te pe) w' := by
  go_enter Tryz.func152, Tryz.ntmps152
  go_wp2_with (first
    | (go_at_call 201; refine h1.mono ?_; rintro e w1 ⟨rfl, hP⟩)
    | (go_at_call 202; refine (h2 _ hP).mono ?_; rintro e w2 ⟨p, te, pe, rfl, hR⟩))
  go_ret
  exact ⟨te, pe, rfl, hR⟩
set_option maxRecDepth 10000 in
set_option maxHeartbeats 2000000 in
theorem pallow_yes (rb lb t na : Nat) (av mv : Value) (xs : List Value) (ms : List MRow) (w : World) (P : World → Prop) (Q : World → Prop) (hna : na ≤ 1000)
    (h1 : Calls Tryz.prog 201 #[.pointer (some ⟨rb, 0, none⟩)] w fun e w' => e = .returned (.tuple #[.int .i64 t, .nilIface]) ∧ P w')
    (h2 : ∀ w1, P w1 → Calls Tryz.prog 202 #[.pointer (some ⟨rb, 0, none⟩), .int .i64 t] w1 fun e w' => (∃ b : Nat, e = .returned (.tuple #[.pointer (some ⟨b, 0, none⟩), .nilIface])) ∧ LawAt w' lb av mv na xs ms ∧ Q w') :
    Calls Tryz.prog 152 #[.pointer (some ⟨rb, 0, none⟩), .pointer (some ⟨lb, 0, none⟩)] w fun e w' => e = .returned .nilIface ∧ ∃ w2 av' xs', Q w2 ∧ LawAt w' lb av' mv (na + 1) xs' ms ∧ Kp lb w2 w' := by
  obtain ⟨j0, hj, hy0, hy1, hy2⟩ := info_parts Tryz.infoAllow
  go_enter Tryz.func152, Tryz.ntmps152
  go_wp2_with (first
    | (go_at_call 201; refine h1.mono ?_; rintro e w1 ⟨rfl, hP⟩)
    | (go_at_call 202; refine (h2 _ hP).mono ?_; rintro e w2 ⟨⟨b, rfl⟩, hL, hQ⟩; obtain ⟨aa, ac, rfl, _⟩ := row_slice hL.arow; have k0 : w2.cell? ⟨lb, 0, none⟩ = some (.slice aa na ac) := (by rw [Lib.cell_of_heap hL.blk]; rfl); have hlb : lb < w2.heap.size := (Array.getElem?_eq_some_iff.1 hL.blk).1)
    | (at_builtin; refine wpList_append_own_at _ rfl _ _ 184 rfl (lb + 1) 323 j0 (.agg #[.int .i64 0, .pointer none]) 2 16 Tryz.underlying184 hj hy0 hy1 hy2 rfl (by decide) _ _ _ rfl (hL.arow.alloc _) ⟨w2.heap.size, 0, none⟩ 1 1 [.int .i64 t, .pointer (some ⟨b, 0, none⟩)] rfl rfl ?ha0 ?ha ?hb ?hc ?hd ?_; (case ha0 => intro j u hj; match j, hj with
        | 0, hj => simp at hj; subst hj; simp [Addr.add]
        | 1, hj => simp at hj; subst hj; simp [Addr.add]); (case ha => intro u hu; simp at hu; rcases hu with rfl | rfl <;> rfl); (case hb => unfold maxLen; omega); (case hc => omega); (case hd => simp; omega); intro av' w3 hrow hg _ _; obtain ⟨q1, q2, q3⟩ := hL.allow hrow hg; have q0 : w3.cell? ⟨lb, 0, none⟩ = some (.slice aa na ac) := (by rw [Lib.cell_of_heap q1]; rfl); have qf := Lib.frozen_of_heap q1 0; obtain ⟨pa, pc, rfl, _⟩ := row_slice hrow))
  go_ret
  exact ⟨rfl, w2, _, _, hQ, q2, q3⟩
end Go.Proofs.YtdnfhaojfdohdaaGreatDoor
namespace Go.Proofs.YtdnfhaojfdohdaaGreatDoor
open Go.RowKit

set_option maxRecDepth 10000 in
set_option maxHeartbeats 1000000 in
theorem pmask_table (rb lb : Nat) (w : World) (R : Value → World → Prop)
    (h1 : Calls Tryz.prog 201 #[.pointer (some ⟨rb, 0, none⟩)] w fun e w' => ∃ te pe, e = .returned (.tuple #[.int .i64 0, .iface te pe]) ∧ R (.iface te pe) w') :
    Calls Tryz.prog 153 #[.pointer (some ⟨rb, 0, none⟩), .pointer (some ⟨lb, 0, none⟩)] w fun e w' => ∃ te pe, e = .returned (.iface te pe) ∧ R (.iface te pe) w' := by
  go_enter Tryz.func153, Tryz.ntmps153
  go_wp2_with (go_at_call 201; refine h1.mono ?_; rintro e w1 ⟨te, pe, rfl, hR⟩)
  go_ret
  exact ⟨te, pe, rfl, hR⟩
set_option maxRecDepth 10000 in
set_option maxHeartbeats 1000000 in
theorem pmask_col (rb lb t : Nat) (w : World) (P : World → Prop) (R : Value → World → Prop)
    (h1 : Calls Tryz.prog 201 #[.pointer (some ⟨rb, 0, none⟩)] w fun e w' => e = .returned (.tuple #[.int .i64 t, .nilIface]) ∧ P w')
    (h2 : ∀ w1, P w1 → Calls Tryz.prog 203 #[.pointer (some ⟨rb, 0, none⟩)] w1 fun e w' => ∃ te pe, e = .returned (.tuple #[.int .i64 0, .iface te pe]) ∧ R (.iface te pe) w') :
    Calls Tryz.prog 153 #[.pointer (some ⟨rb, 0, none⟩), .pointer (some ⟨lb, 0, none⟩)] w fun e w' => ∃ te pe, e = .returned (.iface te pe) ∧ R (.iface te pe) w' := by
  go_enter Tryz.func153, Tryz.ntmps153
  go_wp2_with (first
    | (go_at_call 201; refine h1.mono ?_; rintro e w1 ⟨rfl, hP⟩)
    | (go_at_call 203; refine (h2 _ hP).mono ?_; rintro e w2 ⟨te, pe, rfl, hR⟩))
  go_ret
  exact ⟨te, pe, rfl, hR⟩
set_option maxRecDepth 10000 in
set_option maxHeartbeats 1000000 in
theorem pmask_val (rb lb t c : Nat) (x : List UInt8) (w : World) (P P2 P3 : World → Prop) (R : Value → World → Prop)
    (h1 : Calls Tryz.prog 201 #[.pointer (some ⟨rb, 0, none⟩)] w fun e w' => e = .returned (.tuple #[.int .i64 t, .nilIface]) ∧ P w')
    (h2 : ∀ w1, P w1 → Calls Tryz.prog 203 #[.pointer (some ⟨rb, 0, none⟩)] w1 fun e w' => e = .returned (.tuple #[.int .i64 c, .nilIface]) ∧ P2 w')
    (h3 : ∀ w1, P2 w1 → Calls Tryz.prog 151 #[.pointer (some ⟨rb, 0, none⟩)] w1 fun e w' => e = .returned (.string (bs x)) ∧ P3 w')
    (h4 : ∀ w1, P3 w1 → Calls Tryz.prog 204 #[.pointer (some ⟨rb, 0, none⟩), .string (bs x)] w1 fun e w' => ∃ te pe, e = .returned (.tuple #[.agg #[.int .i64 0, .int .i64 0, .string ⟨#[]⟩], .iface te pe]) ∧ R (.iface te pe) w') :
    Calls Tryz.prog 153 #[.pointer (some ⟨rb, 0, none⟩), .pointer (some ⟨lb, 0, none⟩)] w fun e w' => ∃ te pe w1, e = .returned (.iface te pe) ∧ R (.iface te pe) w1 ∧ Below w1.heap.size w1 w' := by
  go_enter Tryz.func153, Tryz.ntmps153
  go_wp2_with (first
    | (go_at_call 201; refine h1.mono ?_; rintro e w1 ⟨rfl, hP⟩)
    | (go_at_call 203; refine (h2 _ hP).mono ?_; rintro e w2 ⟨rfl, hP2⟩)
    | (go_at_call 151; refine (h3 _ hP2).mono ?_; rintro e w3 ⟨rfl, hP3⟩)
    | (go_at_call 204; refine (h4 _ hP3).mono ?_; rintro e w4 ⟨te, pe, rfl, hR⟩))
  go_ret
  exact ⟨te, pe, w4, rfl, hR, (Below.refl _ _).alloc (Nat.le_refl _) _⟩
set_option maxRecDepth 10000 in
set_option maxHeartbeats 2000000 in
theorem pmask_type (rb lb t c sb soff sn scap : Nat) (tv : Value) (x : List UInt8) (vt y : Int) (hne : y ≠ vt) (w : World) (P P2 P3 P4 : World → Prop) (R : Value → World → Prop) (ht : t < sn) (_hsn : sn ≤ 1048577)
    (h1 : Calls Tryz.prog 201 #[.pointer (some ⟨rb, 0, none⟩)] w fun e w' => e = .returned (.tuple #[.int .i64 t, .nilIface]) ∧ P w')
    (h2 : ∀ w1, P w1 → Calls Tryz.prog 203 #[.pointer (some ⟨rb, 0, none⟩)] w1 fun e w' => e = .returned (.tuple #[.int .i64 c, .nilIface]) ∧ P2 w')
    (h3 : ∀ w1, P2 w1 → Calls Tryz.prog 151 #[.pointer (some ⟨rb, 0, none⟩)] w1 fun e w' => e = .returned (.string (bs x)) ∧ P3 w')
    (h4 : ∀ w1, P3 w1 → Calls Tryz.prog 204 #[.pointer (some ⟨rb, 0, none⟩), .string (bs x)] w1 fun e w' => (∃ n S, e = .returned (.tuple #[.agg #[.int .i64 vt, .int .i64 n, .string S], .nilIface])) ∧ P4 w')
    (hS : ∀ w4 W, P4 w4 → Below w4.heap.size w4 W → W.cell? ⟨rb, 0, none⟩ = some (.slice (some ⟨sb, soff, none⟩) sn scap) ∧ W.cell? ⟨sb, soff + t * 2 + 1, none⟩ = some tv ∧ ∀ m, Calls Tryz.prog 205 #[tv, .int .i64 c] (W.drewN m) fun e w' => e = .returned (.int .i64 y) ∧ w' = W.drewN m)
    (hF : ∀ w4 W s, P4 w4 → Below w4.heap.size w4 W → Calls Tryz.prog 93 #[.pointer (some ⟨rb, 0, none⟩), .string s] W fun e w' => ∃ te pe, e = .returned (.iface te pe) ∧ R (.iface te pe) w') :
    Calls Tryz.prog 153 #[.pointer (some ⟨rb, 0, none⟩), .pointer (some ⟨lb, 0, none⟩)] w fun e w' => ∃ te pe, e = .returned (.iface te pe) ∧ R (.iface te pe) w' := by
  have hi : 0 ≤ (t : Int) ∧ (t : Int) < sn := by omega
  have hne' : (y != vt) = true := by simpa using hne
  go_enter Tryz.func153, Tryz.ntmps153
  go_wp2_with (first
    | (go_at_call 201; refine h1.mono ?_; rintro e w1 ⟨rfl, hP⟩)
    | (go_at_call 203; refine (h2 _ hP).mono ?_; rintro e w2 ⟨rfl, hP2⟩)
    | (go_at_call 151; refine (h3 _ hP2).mono ?_; rintro e w3 ⟨rfl, hP3⟩)
    | (go_at_call 204; refine (h4 _ hP3).mono ?_; rintro e w4 ⟨⟨n, S, rfl⟩, hP4⟩))
  have hba : Below w4.heap.size w4 (w4.alloc (.cells #[.int .i64 vt, .int .i64 n, .string S] 325)) := (Below.refl _ _).alloc (Nat.le_refl _) _
  obtain ⟨k0, k1, hT⟩ := hS w4 _ hP4 hba
  go_quiet (first | (go_at_call 205; exact quiet_c hT _) | (go_at_call 205; exact quiet_d hT _ _) | (go_at_call 205; exact quiet_e hT _ _))
  have hf := fun s => hF w4 ((w4.alloc (.cells #[.int .i64 vt, .int .i64 n, .string S] 325)).drewN nq) s hP4 (belowN hba nq)
  go_wp2_with (go_at_call 93; refine (hf _).mono ?_; rintro e w5 ⟨te, pe, rfl, hR⟩)
  go_ret
  exact ⟨te, pe, rfl, hR⟩
end Go.Proofs.YtdnfhaojfdohdaaGreatDoor
