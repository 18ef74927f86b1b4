import Derived.Test.YtnpjldffciociaaGreatDoorB09
import Derived.Test.YtnpjldffciociaaGreatDoorC02
import Derived.Laws.AppendOwnNone
import Derived.WalkSmall
namespace Go.Proofs.YtnpjldffciociaaGreatDoor
open Go.RowKit

/-- A slice that is nil is nil for good. -/
def NilOk (v : Value) : Prop := v = .slice none 0 0 ∨ ∃ ad n c, v = .slice (some ad) n c
theorem NilOk.of_owns {w : World} {base : Nat} {e : TypeId} {size : Nat} {v : Value} {n : Nat} {xs : List Value} (h : w.ownsRow base e size v n xs) : NilOk v := by
  obtain ⟨_, ⟨rfl, _⟩ | ⟨g, cap, cur, rfl, _⟩⟩ := h
  · exact .inl rfl
  · exact .inr ⟨_, _, _, rfl⟩
theorem NilOk.of_pos {w : World} {v : Value} {xs : List Value} (h : Reads w v xs) (hp : 0 < xs.length) : NilOk v := by
  obtain ⟨a, cap, rfl, h⟩ := h
  obtain ⟨b, off, rfl, _⟩ := h 0 xs[0] (by simp [hp])
  exact .inr ⟨_, _, _, rfl⟩

/-- 'append(l, xs...)', the elements of one cell, l of the call's own, xs whatever. -/
theorem append_src {P : Program} {ops : Array Oper} {rest : List Oper} {o : Oper} {a : Act} {w : World} {Q : Exit → Act → World → Prop} (hgd : o.guard = none) (s x : Operand) (t : TypeId)
    (ho : o.op = .call { callee := .builtin .append, args := #[s, x], argTypes := #[t, t] })
    (base : Nat) (e : TypeId) (i : TypeInfo) (z : Value) (bytes : Nat) (ht : P.underlying t = some (.slice e)) (hi : P.info? e = some i) (hz : i.zero = some z)
    (hsize : i.size = 1) (hby : i.bytes = bytes) (hzs : z.cells.size = 1)
    (v : Value) (n : Nat) (xs : List Value) (hs : a.eval s = v) (hown : w.ownsRow base e 1 v n xs)
    (vx : Value) (us : List Value) (hx : a.eval x = vx) (hnil : NilOk vx) (hr : Reads w vx us) (h1 : ∀ u ∈ us, u.oneCell' = true)
    (h63 : n + us.length ≤ maxLen) (hbytes : (n + us.length) * bytes ≤ 140737488355328) (hbase : base ≤ w.heap.size)
    (h : ∀ v' w', w'.ownsRow base e 1 v' (n + us.length) (xs ++ us) → Below base w w' → wpList P ops Q rest (a.put o.dst v') w') :
    wpList P ops Q (o :: rest) a w := by
  obtain ⟨ax, capx, rfl, hc⟩ := hr
  rcases hnil with e0 | ⟨ad, m, c, e0⟩
  · simp only [Value.slice.injEq] at e0
    obtain ⟨rfl, hl, rfl⟩ := e0
    have hu : us = [] := List.eq_nil_of_length_eq_zero hl
    subst hu
    refine wpList_append_own_none hgd s x t ho base e i 1 ht hi v n xs hs hown hx ?_
    exact h v w (by simpa using hown) (Below.refl _ _)
  · simp only [Value.slice.injEq] at e0
    obtain ⟨rfl, rfl, rfl⟩ := e0
    refine wpList_append_own _ hgd s x t ho base e i z 1 bytes ht hi hz hsize hby hzs (by decide) v n xs hs hown ad us.length capx us hx (by simp) ?_ h1 h63 hbytes hbase ?_
    · intro j u hj
      obtain ⟨b, off, e1, _, hcell⟩ := hc j u hj
      simp at e1
      subst e1
      by_cases hj0 : j = 0
      · subst hj0; simpa [Addr.add] using hcell
      · simpa [Addr.add, hj0] using hcell
    · intro v' w' ho' hg hn
      have hrow : ∀ k, v.ownBlock = some k → base ≤ k := by
        intro k hk
        rcases hown.2 with ⟨rfl, _⟩ | ⟨g, cap, cur, rfl, hb, _⟩
        · simp [Value.ownBlock] at hk
        · simp [Value.ownBlock] at hk; omega
      exact h v' w' ho' ((Below.refl base w).grown hg hbase hrow)

theorem columns_any2 (s : ByteArray) (n : Nat) (w : World) (hs : s.size ≤ 1048577) :
    Calls Tryz.prog 206 #[.string s, .int .i64 n] w fun e w' => ∃ u, e = .returned (.tuple #[u, .bool (colsOf s.data.toList n).isSome]) ∧ Reads w' u (((colsOf s.data.toList n).getD []).map i64v) ∧ Below w.heap.size w w' := by
  refine (columns_any s n w hs).mono ?_
  rintro e w' ⟨v, rfl, hc, hb⟩
  cases h : colsOf s.data.toList n with
  | none => rw [h] at hc; exact ⟨_, by rw [hc]; rfl, Reads.nil _, hb⟩
  | some cs =>
    rw [h] at hc
    obtain ⟨u, rfl, hr⟩ := hc
    exact ⟨u, rfl, hr, hb⟩
set_option maxRecDepth 10000 in
set_option maxHeartbeats 1000000 in
theorem ty_all_no (w : World) (vs : Value) (b off len cap i : Nat) (at_ : Option Addr) (na capa : Nat) (vb : Value) (hi : i ≤ 1000) (_hlen : len ≤ 60) (_hna : na ≤ 9) (hi1 : i + 1 < len) (hci : w.cell? ⟨b, off + i, none⟩ = some (.string (bs wAll))) (x1 : List UInt8) (hc1 : w.cell? ⟨b, off + (i + 1), none⟩ = some (.string (bs x1))) (hf : Calls Tryz.prog 105 #[vs, .string (bs x1)] w fun e w' => e = .returned (.int .i64 (-1)) ∧ w' = w) :
    Calls Tryz.prog 155 #[vs, .slice (some ⟨b, off, none⟩) len cap, .int .i64 i, .slice at_ na capa, vb] w fun e w' => e = .returned (.tuple #[.slice none 0 0, .bool false]) ∧ w' = w := by
  have hbs := bs_toList2
  go_enter Tryz.func155, Tryz.ntmps155
  go_wp2_with (go_at_call 105; with_reducible refine hf.mono ?_; rintro e w' ⟨rfl, rfl⟩)
  go_ret2
  exact ⟨rfl, rfl⟩
set_option maxRecDepth 10000 in
set_option maxHeartbeats 1000000 in
theorem ty_all (w : World) (b off len cap i : Nat) (at_ : Option Addr) (na capa : Nat) (vb : Value) (hi : i ≤ 1000) (_hlen : len ≤ 60) (_hna : na ≤ 9) (hi1 : i + 1 < len) (hci : w.cell? ⟨b, off + i, none⟩ = some (.string (bs wAll))) (x1 : List UInt8) (hc1 : w.cell? ⟨b, off + (i + 1), none⟩ = some (.string (bs x1))) (bt offt nt capt t : Nat) (tv : Value) (ht : t < nt) (_hnt : nt ≤ 1048577) (hct : w.cell? ⟨bt, offt + t * 2 + 1, none⟩ = some tv) (htv : ∃ a n c, tv = .slice a n c) (hf : Calls Tryz.prog 105 #[.slice (some ⟨bt, offt, none⟩) nt capt, .string (bs x1)] w fun e w' => e = .returned (.int .i64 (t : Int)) ∧ w' = w) :
    Calls Tryz.prog 155 #[.slice (some ⟨bt, offt, none⟩) nt capt, .slice (some ⟨b, off, none⟩) len cap, .int .i64 i, .slice at_ na capa, vb] w fun e w' => e = .returned (.tuple #[tv, .bool true]) ∧ w' = w := by
  obtain ⟨a1, n1, c1, rfl⟩ := htv
  have hbs := bs_toList2
  go_enter Tryz.func155, Tryz.ntmps155
  go_wp2_with (go_at_call 105; with_reducible refine hf.mono ?_; rintro e w' ⟨rfl, rfl⟩)
  go_ret2
  exact ⟨rfl, rfl⟩
set_option maxRecDepth 10000 in
set_option maxHeartbeats 1000000 in
theorem ty_keep (w : World) (vs : Value) (b off len cap i : Nat) (at_ : Option Addr) (na capa : Nat) (vb : Value) (hi : i ≤ 1000) (_hlen : len ≤ 60) (_hna : na ≤ 9) (hi1 : i + 1 < len) (hci : w.cell? ⟨b, off + i, none⟩ = some (.string (bs wKeep))) (x1 : List UInt8) (hc1 : w.cell? ⟨b, off + (i + 1), none⟩ = some (.string (bs x1))) (n : Nat) (r : Bool) (hk : Calls Tryz.prog 205 #[.slice (some ⟨b, off, none⟩) len cap, .int .i64 ((i : Int) + 1)] w fun e w' => e = .returned (.int .i64 (n : Int)) ∧ w' = w) (hic : Calls Tryz.prog 162 #[vs, .slice (some ⟨b, off, none⟩) len cap, .int .i64 ((i : Int) + 1), .int .i64 (n : Int), .slice at_ na capa, .bool false] w fun e w' => e = .returned (.bool r) ∧ Below w.heap.size w w') :
    Calls Tryz.prog 155 #[vs, .slice (some ⟨b, off, none⟩) len cap, .int .i64 i, .slice at_ na capa, vb] w fun e w' => e = .returned (.tuple #[.slice at_ na capa, .bool r]) ∧ Below w.heap.size w w' := by
  have hbs := bs_toList2
  go_enter Tryz.func155, Tryz.ntmps155
  go_wp2_with (first | (go_at_call 205; with_reducible refine hk.mono ?_; rintro e w' ⟨rfl, rfl⟩) | (go_at_call 162; with_reducible refine hic.mono ?_; rintro e w1 ⟨rfl, hb1⟩))
  go_ret2
  exact ⟨rfl, hb1⟩
set_option maxRecDepth 10000 in
set_option maxHeartbeats 1000000 in
theorem ty_pick (w : World) (vs : Value) (b off len cap i : Nat) (at_ : Option Addr) (na capa : Nat) (vb : Value) (hi : i ≤ 1000) (_hlen : len ≤ 60) (_hna : na ≤ 9) (hi1 : i + 1 < len) (hci : w.cell? ⟨b, off + i, none⟩ = some (.string (bs wPick))) (x1 : List UInt8) (hc1 : w.cell? ⟨b, off + (i + 1), none⟩ = some (.string (bs x1))) (cs : List Nat) (ys : List Bool) (okc : Bool) (hcs : Calls Tryz.prog 206 #[.string (bs x1), .int .i64 na] w fun e w' => ∃ u, e = .returned (.tuple #[u, .bool okc]) ∧ Reads w' u (cs.map i64v) ∧ Below w.heap.size w w') (hso : ∀ w1 u, Below w.heap.size w w1 → Reads w1 u (cs.map i64v) → Calls Tryz.prog 207 #[.slice at_ na capa, u] w1 fun e w' => ∃ v', e = .returned v' ∧ w'.ownsRow w1.heap.size 4 1 v' cs.length (ys.map Value.bool) ∧ Below w1.heap.size w1 w') :
    Calls Tryz.prog 155 #[vs, .slice (some ⟨b, off, none⟩) len cap, .int .i64 i, .slice at_ na capa, vb] w fun e w' => (∃ v, e = .returned (.tuple #[v, .bool okc]) ∧ Reads w' v (ys.map Value.bool) ∧ NilOk v) ∧ Below w.heap.size w w' := by
  have hbs := bs_toList2
  go_enter Tryz.func155, Tryz.ntmps155
  go_wp2_with (first | (go_at_call 206; refine hcs.mono ?_; rintro e w1 ⟨u, rfl, hru, hb1⟩) | (go_at_call 207; refine (hso _ _ hb1 hru).mono ?_; rintro e w2 ⟨v2, rfl, hown2, hb2⟩))
  go_ret2
  exact ⟨⟨_, rfl, Reads.of_owns hown2, NilOk.of_owns hown2⟩, hb1.trans (hb2.mono hb1.size)⟩
set_option maxRecDepth 10000 in
set_option maxHeartbeats 1000000 in
theorem ty_count (w : World) (vs : Value) (b off len cap i : Nat) (at_ : Option Addr) (na capa : Nat) (vb : Value) (hi : i ≤ 1000) (_hlen : len ≤ 60) (_hna : na ≤ 9) (hi1 : i + 1 < len) (hci : w.cell? ⟨b, off + i, none⟩ = some (.string (bs wCount))) (x1 : List UInt8) (hc1 : w.cell? ⟨b, off + (i + 1), none⟩ = some (.string (bs x1))) (cs : List Nat) (ys : List Bool) (okc : Bool) (hcl : cs.length ≤ 1048577) (hcs : Calls Tryz.prog 206 #[.string (bs x1), .int .i64 na] w fun e w' => ∃ u, e = .returned (.tuple #[u, .bool okc]) ∧ Reads w' u (cs.map i64v) ∧ Below w.heap.size w w') (hso : ∀ w1 u, Below w.heap.size w w1 → Reads w1 u (cs.map i64v) → Calls Tryz.prog 207 #[.slice at_ na capa, u] w1 fun e w' => ∃ v', e = .returned v' ∧ w'.ownsRow w1.heap.size 4 1 v' cs.length (ys.map Value.bool) ∧ Below w1.heap.size w1 w') :
    Calls Tryz.prog 155 #[vs, .slice (some ⟨b, off, none⟩) len cap, .int .i64 i, .slice at_ na capa, vb] w fun e w' => (∃ v, e = .returned (.tuple #[v, .bool okc]) ∧ Reads w' v ((ys ++ [false]).map Value.bool) ∧ NilOk v) ∧ Below w.heap.size w w' := by
  obtain ⟨i0, hi0, hz0, hz1, hz2⟩ := info_parts Tryz.infoBool
  have hbs := bs_toList2
  go_enter Tryz.func155, Tryz.ntmps155
  go_wp2_with (first | (go_at_call 206; refine hcs.mono ?_; rintro e w1 ⟨u, rfl, hru, hb1⟩) | (go_at_call 207; refine (hso _ _ hb1 hru).mono ?_; rintro e w2 ⟨v2, rfl, hown2, hb2⟩) | (at_builtin; refine append_one rfl _ _ 117 rfl w1.heap.size 4 i0 (.bool false) 1 Tryz.underlying117 hi0 hz0 hz1 hz2 rfl _ _ _ rfl hown2 (.bool false) rfl rfl (by unfold maxLen; omega) (by omega) hb2.size ?_; intro v3 w3 hown3 hb3 _))
  go_ret2
  exact ⟨⟨_, rfl, by rw [List.map_append]; exact Reads.of_owns hown3, NilOk.of_owns hown3⟩, (hb1.trans (hb2.mono hb1.size)).trans (hb3.mono hb1.size)⟩
set_option maxRecDepth 10000 in
set_option maxHeartbeats 1000000 in
theorem ty_both (w : World) (vs : Value) (b off len cap i : Nat) (at_ : Option Addr) (na capa : Nat) (vb : Value) (_hi : i ≤ 1000) (_hlen : len ≤ 60) (_hna : na ≤ 9) (hi1 : i < len) (hci : w.cell? ⟨b, off + i, none⟩ = some (.string (bs wBoth))) (r : Bool) (hal : Calls Tryz.prog 208 #[.slice at_ na capa, vb] w fun e w' => e = .returned (.bool r) ∧ ∃ n, w' = w.drewN n) :
    Calls Tryz.prog 155 #[vs, .slice (some ⟨b, off, none⟩) len cap, .int .i64 i, .slice at_ na capa, vb] w fun e w' => e = .returned (.tuple #[.slice at_ na capa, .bool r]) ∧ ∃ n, w' = w.drewN n := by
  have hbs := bs_toList2
  go_enter Tryz.func155, Tryz.ntmps155
  go_wp2_with (go_at_call 208; refine hal.mono ?_; rintro e w1 ⟨rfl, m, rfl⟩)
  go_ret2
  exact ⟨rfl, m, rfl⟩
end Go.Proofs.YtnpjldffciociaaGreatDoor
namespace Go.Proofs.YtnpjldffciociaaGreatDoor
open Go.RowKit

set_option maxRecDepth 10000 in
set_option maxHeartbeats 1000000 in
theorem ty_join_no (w : World) (vs : Value) (b off len cap i : Nat) (va vb : Value) (xs ys : List Bool) (hi : i ≤ 1000) (_hlen : len ≤ 60) (hna : xs.length ≤ 9) (hnb : ys.length ≤ 9) (ra : Reads w va (xs.map Value.bool)) (rb : Reads w vb (ys.map Value.bool)) (oa : NilOk va) (ob : NilOk vb) (hi2 : i + 2 < len) (_hbw : b < w.heap.size) (hci : w.cell? ⟨b, off + i, none⟩ = some (.string (bs wJoin))) (x1 x2 : List UInt8) (hc1 : w.cell? ⟨b, off + (i + 1), none⟩ = some (.string (bs x1))) (hc2 : w.cell? ⟨b, off + (i + 2), none⟩ = some (.string (bs x2))) (p q : Int) (hno : p < 0 ∨ q < 0) (hp : Calls Tryz.prog 163 #[.string (bs x1), .int .i64 xs.length] w fun e w' => e = .returned (.int .i64 p) ∧ w' = w) (hq : Calls Tryz.prog 163 #[.string (bs x2), .int .i64 ys.length] w fun e w' => e = .returned (.int .i64 q) ∧ w' = w) :
    Calls Tryz.prog 155 #[vs, .slice (some ⟨b, off, none⟩) len cap, .int .i64 i, va, vb] w fun e w' => (∃ v, e = .returned (.tuple #[v, .bool false])) ∧ Below w.heap.size w w' := by
  obtain ⟨i0, hi0, hz0, hz1, hz2⟩ := info_parts Tryz.infoBool
  have h1b : ∀ (zs : List Bool), ∀ u ∈ zs.map Value.bool, u.oneCell' = true := by
    intro zs u hu
    obtain ⟨z, _, rfl⟩ := List.mem_map.1 hu
    rfl
  obtain ⟨aa, capa, rfl, hra⟩ := id ra
  obtain ⟨ab, capb, rfl, hrb⟩ := id rb
  clear hra hrb
  rw [List.length_map] at *
  have hbs := bs_toList2
  have hg : decide (0 ≤ p) = false ∨ (decide (0 ≤ p) = true ∧ decide (0 ≤ q) = false) := by simp; omega
  rcases hg with hg | ⟨hg1, hg2⟩
  all_goals
    go_enter Tryz.func155, Tryz.ntmps155
    go_wp2_with (first | (at_builtin; refine append_src rfl (.tmp 150) (.tmp 151) 117 rfl w.heap.size 4 i0 (.bool false) 1 Tryz.underlying117 hi0 hz0 hz1 hz2 rfl _ _ _ rfl (World.ownsRow_nil _ _ _ _) _ (xs.map Value.bool) rfl oa ra (h1b _) (by unfold maxLen; simp; omega) (by simp; omega) (Nat.le_refl _) ?_; intro v1 w1 hown1 hb1; simp only [Nat.zero_add, List.nil_append] at hown1) | (at_builtin; refine append_src rfl (.tmp 153) (.tmp 154) 117 rfl w.heap.size 4 i0 (.bool false) 1 Tryz.underlying117 hi0 hz0 hz1 hz2 rfl _ _ _ rfl hown1 _ (ys.map Value.bool) rfl ob (rb.below hb1) (h1b _) (by unfold maxLen; simp; omega) (by simp; omega) hb1.size ?_; intro v2 w2 hown2 hb2; obtain ⟨hcc, _⟩ := bcell (hb1.trans hb2)) | (go_at_call 163; with_reducible refine hp.mono ?_; rintro e w' ⟨rfl, hw⟩; obtain rfl := hw.symm) | (go_at_call 163; with_reducible refine hq.mono ?_; rintro e w' ⟨rfl, hw⟩; obtain rfl := hw.symm))
    go_quiet (fail)
    go_wp2
    go_ret2
    exact ⟨⟨_, rfl⟩, below_drewN (hb1.trans hb2) _⟩
set_option maxRecDepth 10000 in
set_option maxHeartbeats 1000000 in
theorem ty_join_yes (w : World) (vs : Value) (b off len cap i : Nat) (va vb : Value) (xs ys : List Bool) (hi : i ≤ 1000) (_hlen : len ≤ 60) (hna : xs.length ≤ 9) (hnb : ys.length ≤ 9) (ra : Reads w va (xs.map Value.bool)) (rb : Reads w vb (ys.map Value.bool)) (oa : NilOk va) (ob : NilOk vb) (hi2 : i + 2 < len) (_hbw : b < w.heap.size) (hci : w.cell? ⟨b, off + i, none⟩ = some (.string (bs wJoin))) (x1 x2 : List UInt8) (hc1 : w.cell? ⟨b, off + (i + 1), none⟩ = some (.string (bs x1))) (hc2 : w.cell? ⟨b, off + (i + 2), none⟩ = some (.string (bs x2))) (p q : Nat) (hpl : p < xs.length) (hql : q < ys.length) (x y : Bool) (ba offa bb offb capa capb : Nat) (ea : va = .slice (some ⟨ba, offa, none⟩) xs.length capa) (eb : vb = .slice (some ⟨bb, offb, none⟩) ys.length capb) (hba : ba < w.heap.size) (hbb : bb < w.heap.size) (hx : w.cell? ⟨ba, offa + p, none⟩ = some (.bool x)) (hy : w.cell? ⟨bb, offb + q, none⟩ = some (.bool y)) (hp : Calls Tryz.prog 163 #[.string (bs x1), .int .i64 xs.length] w fun e w' => e = .returned (.int .i64 p) ∧ w' = w) (hq : Calls Tryz.prog 163 #[.string (bs x2), .int .i64 ys.length] w fun e w' => e = .returned (.int .i64 q) ∧ w' = w) :
    Calls Tryz.prog 155 #[vs, .slice (some ⟨b, off, none⟩) len cap, .int .i64 i, va, vb] w fun e w' => (∃ v, e = .returned (.tuple #[v, .bool (x == y)]) ∧ Reads w' v ((xs ++ ys).map Value.bool) ∧ NilOk v) ∧ Below w.heap.size w w' := by
  obtain ⟨i0, hi0, hz0, hz1, hz2⟩ := info_parts Tryz.infoBool
  have h1b : ∀ (zs : List Bool), ∀ u ∈ zs.map Value.bool, u.oneCell' = true := by
    intro zs u hu
    obtain ⟨z, _, rfl⟩ := List.mem_map.1 hu
    rfl
  subst ea
  subst eb
  have hp0 : (0 : Int) ≤ (p : Int) := by omega
  have hq0 : (0 : Int) ≤ (q : Int) := by omega
  have hpi : (p : Int) < (xs.length : Int) := by omega
  have hqi : (q : Int) < (ys.length : Int) := by omega
  have hbs := bs_toList2
  go_enter Tryz.func155, Tryz.ntmps155
  go_wp2_with (first | (at_builtin; refine append_src rfl (.tmp 150) (.tmp 151) 117 rfl w.heap.size 4 i0 (.bool false) 1 Tryz.underlying117 hi0 hz0 hz1 hz2 rfl _ _ _ rfl (World.ownsRow_nil _ _ _ _) _ (xs.map Value.bool) rfl oa ra (h1b _) (by unfold maxLen; simp; omega) (by simp; omega) (Nat.le_refl _) ?_; intro v1 w1 hown1 hb1; simp only [Nat.zero_add, List.nil_append] at hown1) | (at_builtin; refine append_src rfl (.tmp 153) (.tmp 154) 117 rfl w.heap.size 4 i0 (.bool false) 1 Tryz.underlying117 hi0 hz0 hz1 hz2 rfl _ _ _ rfl hown1 _ (ys.map Value.bool) rfl ob (rb.below hb1) (h1b _) (by unfold maxLen; simp; omega) (by simp; omega) hb1.size ?_; intro v2 w2 hown2 hb2; obtain ⟨hcc, _⟩ := bcell (hb1.trans hb2)) | (go_at_call 163; with_reducible refine hp.mono ?_; rintro e w' ⟨rfl, hw⟩; obtain rfl := hw.symm) | (go_at_call 163; with_reducible refine hq.mono ?_; rintro e w' ⟨rfl, hw⟩; obtain rfl := hw.symm))
  go_quiet (fail)
  go_wp2
  go_ret2
  exact ⟨⟨_, rfl, by rw [List.map_append]; exact (Reads.of_owns hown2).below (below_drewN (Below.refl _ _) _), NilOk.of_owns hown2⟩, below_drewN (hb1.trans hb2) _⟩
end Go.Proofs.YtnpjldffciociaaGreatDoor
