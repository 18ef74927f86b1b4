import Derived.Test.YtnpjldffciociaaFrN
import Derived.BigQuiet
namespace Go.Proofs.Ytnpjldffciociaa
open Go.RowKit

theorem ret_bool {a b : Bool} (h : a = b) : Ending.returned (.bool a) = .returned (.bool b) := by rw [h]
theorem below_grown {w w' : World} (h : Below w.heap.size w w') (row : Option Nat) : w.grownBy w' row := ⟨h.os, h.tape, h.output, h.size, fun k hk _ => h.block k hk⟩
theorem flatE_at (es : List (Value × List UInt8)) : ∀ (i : Nat) (h : i < es.length), (flatE es)[i * 2]? = some es[i].1 ∧ (flatE es)[i * 2 + 1]? = some (sv es[i].2) := by
  induction es with
  | nil => intro i h; simp at h
  | cons e es ih =>
    intro i h
    have he : flatE (e :: es) = e.1 :: sv e.2 :: flatE es := by simp [flatE]
    rw [he]
    cases i with
    | zero => simp
    | succ i =>
      have := ih i (by simpa using h)
      have e1 : (i + 1) * 2 = i * 2 + 1 + 1 := by omega
      rw [e1]
      simpa using this
theorem HeldAt.entry {B0 : Nat} {w : World} {hb : Nat} {n : Int} {tv : Value} {es : List (Value × List UInt8)} (h : HeldAt B0 w hb n tv es) (i : Nat) (hi : i < es.length) :
    ∃ g tc, tv = .slice (some ⟨g, 0, none⟩) es.length tc ∧ g < w.heap.size ∧ w.cell? ⟨g, i * 2, none⟩ = some es[i].1 ∧ w.cell? ⟨g, i * 2 + 1, none⟩ = some (sv es[i].2) := by
  have hcells := fun g => h.row.cells (g := g)
  rcases h.row.2 with ⟨rfl, h0⟩ | ⟨g, tc, cur, rfl, _, hh, _⟩
  · omega
  · obtain ⟨f0, f1⟩ := flatE_at es i hi
    have c0 := hcells g rfl _ _ f0
    have c1 := hcells g rfl _ _ f1
    rw [addz] at c0 c1
    exact ⟨g, tc, rfl, (Array.getElem?_eq_some_iff.1 hh).1, c0, c1⟩
theorem Mk.entry {L : Nat} {w : World} {v : Value} {m : List UInt8} (h : Mk L w v m) : ∃ va n vc, v = .slice va n vc ∧ n ≤ L ∧ ∀ i, i < n → ∃ g, va = some ⟨g, 0, none⟩ ∧ g < w.heap.size ∧ w.cell? ⟨g, i, none⟩ = some (sv m) := by
  obtain ⟨va, n, vc, rfl, hn, hc⟩ := h
  refine ⟨va, n, vc, rfl, hn, fun i hi => ?_⟩
  obtain ⟨g, cur, rfl, hh, hx⟩ := hc i hi
  exact ⟨g, rfl, (Array.getElem?_eq_some_iff.1 hh).1, by rw [Lib.cell_of_heap hh]; exact hx⟩

set_option maxRecDepth 10000 in
set_option maxHeartbeats 2000000 in
theorem ldry (B0 hb : Nat) (n : Int) (tv : Value) (es : List (Value × List UInt8)) (w : World) (H : HeldAt B0 w hb n tv es) (hel : es.length ≤ 1000) :
    Calls Try.prog 8 #[.pointer (some ⟨hb, 0, none⟩)] w fun e w' => e = .returned (.bool true) ∧ Below w.heap.size w w' := by
  obtain ⟨c0, c1, c2, c3⟩ := H.blk.cell
  obtain ⟨ta, tc, rfl, _⟩ := row_slice H.row
  have HH := hidM H
  have hbs := bs_toList2
  clear H c0 c2
  go_enter Try.func8, Try.ntmps8
  go_wp2
  go_loopw [3] (fun i wr => ∃ k : Nat, k ≤ es.length ∧ i = .int .i64 k ∧ Hid (Below w.heap.size w wr)) (fun i _ => es.length - (intOf i).toNat)
  case atStart => exact ⟨0, by omega, rfl, hidM (Below.refl _ _)⟩
  case round =>
    obtain ⟨k, hk, rfl, HB⟩ := hrel
    have hws := HB.out.size
    have c1' : wr.cell? ⟨hb, 1, none⟩ = some (.slice ta es.length tc) := by rw [HB.out.cell (p := ⟨hb, 1, none⟩) c3]; exact c1
    by_cases hlt : k < es.length
    · obtain ⟨g, tc', he, hg, e0, e1⟩ := HH.out.entry k hlt
      cases he
      have f0 : wr.cell? ⟨g, k * 2, none⟩ = some es[k].1 := by rw [HB.out.cell (p := ⟨g, k * 2, none⟩) hg]; exact e0
      have f1 : wr.cell? ⟨g, k * 2 + 1, none⟩ = some (sv es[k].2) := by rw [HB.out.cell (p := ⟨g, k * 2 + 1, none⟩) hg]; exact e1
      obtain ⟨va, nL, vc, hv, hnL, hmk⟩ := (HH.out.marks es[k] (List.getElem_mem hlt)).entry
      rw [hv] at f0
      generalize es[k].2 = m at *
      have HM := hidM hmk
      clear hmk e0 e1 hv
      have hgr : g < wr.heap.size := by omega
      go_wp2
      obtain ⟨w4, hw4⟩ : ∃ w4, w4 = wr.alloc (.cells #[.slice va nL vc, sv m] 42) := ⟨_, rfl⟩
      rw [← hw4]
      have HB4 := hidM (show Below w.heap.size w w4 by rw [hw4]; exact HB.out.alloc hws _)
      have k0 : w4.cell? ⟨wr.heap.size, 0, none⟩ = some (.slice va nL vc) := by rw [hw4]; simp
      have k1 : w4.cell? ⟨wr.heap.size, 1, none⟩ = some (sv m) := by rw [hw4]; simp
      clear hw4 f0 f1 c1'
      go_loopw [5] (fun i wx => ∃ j q : Nat, j ≤ nL ∧ i = .int .i64 j ∧ wx = w4.drewN q) (fun i _ => nL - (intOf i).toNat)
      case atStart => exact ⟨0, 0, by omega, rfl, rfl⟩
      case round =>
        obtain ⟨j, q, hj, rfl, rfl⟩ := hrel
        by_cases hlt2 : j < nL
        · obtain ⟨g', rfl, hg', hcg⟩ := HM.out j hlt2
          have k2 : w4.cell? ⟨g', j, none⟩ = some (sv m) := by rw [HB4.out.cell (p := ⟨g', j, none⟩) hg']; exact hcg
          have bb : 0 ≤ (j : Int) ∧ (j : Int) < (nL : Nat) := by omega
          clear hcg
          go_wp2
          go_quiet (fail)
          go_wp2
          exact ⟨⟨j + 1, q + nq, by omega, by go_num, rfl⟩, by simp [intOf]; omega⟩
        · go_wp2
          exact ⟨⟨k + 1, by omega, by go_num, hidM (belowN HB4.out q)⟩, by simp [intOf]; omega⟩
    · go_wp2
      go_ret
      exact ⟨rfl, HB.out⟩
theorem own_drewN {w : World} {base : Nat} {v : Value} {ls : List (List UInt8)} (h : OwnT base v ls w) (q : Nat) : OwnT base v ls (w.drewN q) := h
theorem own_reads {base : Nat} {v : Value} {ls : List (List UInt8)} {n : Nat} {w : World} (h : OwnT base v ls w) (hl : ls.length = n) : ∃ va vc, v = .slice va n vc ∧ ∀ i (hi : i < ls.length), ∃ g, va = some ⟨g, 0, none⟩ ∧ g < w.heap.size ∧ w.cell? ⟨g, i, none⟩ = some (sv ls[i]) := by
  have hcells := fun g => h.cells (g := g)
  have hlt := h.lt
  rcases h.2 with ⟨rfl, h0⟩ | ⟨g, cap, cur, rfl, _⟩
  · exact ⟨none, 0, by rw [← hl, h0], fun i hi => by omega⟩
  · refine ⟨_, _, by rw [← hl], fun i hi => ⟨g, rfl, (hlt g rfl).2, ?_⟩⟩
    have := hcells g rfl i (sv ls[i]) (by simp [hi])
    rwa [addz] at this
theorem cut_len (b : List UInt8) : (cutL b).1.length ≤ b.length := by
  suffices h : ∀ (k : Nat) (b : List UInt8), b.length ≤ k → (cutL b).1.length ≤ b.length from h _ b (Nat.le_refl _)
  intro k
  induction k with
  | zero =>
    intro b hb
    have : b = [] := List.eq_nil_of_length_eq_zero (by omega)
    subst this
    rw [cutL_front (by simp [fstL])]; simp
  | succ k ih =>
    intro b hb
    match hf : fstL b with
    | none => rw [cutL_front hf]; simp
    | some none => rw [cutL_broken hf]; simp
    | some (some n) =>
      have hw := fstL_whole hf
      rw [cutL_whole hf]
      have := ih (b.drop (n + 8)) (by simp; omega)
      simp at this ⊢
      omega

set_option maxRecDepth 10000 in
set_option maxHeartbeats 2000000 in
theorem lunpack (B0 hb n : Nat) (tv : Value) (es : List (Value × List UInt8)) (w : World) (s : ByteArray) (hs : s.size ≤ 4194304) (hB0 : B0 ≤ w.heap.size) (H : HeldAt B0 w hb n tv es) (hn : n ≤ 1000) (hel : es.length ≤ 1000) :
    Calls Try.prog 6 #[.pointer (some ⟨hb, 0, none⟩), .string s] w fun e w' => e = .returned (.bool true) ∧ (∃ tv' es', HeldAt B0 w' hb ((n : Int) + 1) tv' es' ∧ es'.length = es.length + 4) ∧ Below B0 w w' := by
  have hv := vunpack s w hs
  have hr := fun w => ref_unpack s w hs
  have hcl := cut_len s.data.toList
  have hsz : s.data.toList.length = s.size := by simp
  have hbs := bs_toList2
  rw [hsz] at hcl
  generalize hL : (cutL s.data.toList).1.length = L at hcl
  generalize (cutL s.data.toList).2.1 = c1 at *
  generalize (cutL s.data.toList).2.2 = c2 at *
  generalize (cutL s.data.toList).1 = ls at *
  have HL := hidM hL
  have HH := hidM H
  clear hL H hsz
  go_enter Try.func6, Try.ntmps6
  go_wp2_with (first
    | (go_at_call 11; refine hv.mono ?_; rintro e w1 ⟨lv, rfl, hO1, hb1⟩; obtain ⟨la, lc, rfl, hR1⟩ := own_reads hO1 HL.out)
    | (go_at_call 13; refine (hr _).mono ?_; rintro e w2 ⟨mv, rfl, hO2, hb2⟩; obtain ⟨ma, mc, rfl, hR2⟩ := own_reads hO2 HL.out))
  have HB := hidM (hb1.trans (hb2.mono hb1.size))
  have hO := owns_below hO1 hb2
  rw [HL.out] at hO
  have HO := hidM hO
  have HR1 := hidM hR1
  have HR2 := hidM hR2
  have HB2 := hidM hb2
  clear hR1 hR2 hO1 hO2 hb1 hb2 hv hr hO
  go_loopw [11, 12] (fun same i wx => ∃ k q : Nat, k ≤ L ∧ same = .bool true ∧ i = .int .i64 k ∧ wx = w2.drewN q) (fun _ i _ => L - (intOf i).toNat)
  case atStart => exact ⟨0, 0, by omega, by simp, rfl, rfl⟩
  case round =>
    obtain ⟨k, q, hk, rfl, rfl, rfl⟩ := hrel
    by_cases hlt : k < L
    · have hk' : k < ls.length := by rw [HL.out]; exact hlt
      obtain ⟨g1, rfl, hg1, hx1⟩ := HR1.out k hk'
      obtain ⟨g2, rfl, hg2, hx2⟩ := HR2.out k hk'
      have hx1' : w2.cell? ⟨g1, k, none⟩ = some (sv ls[k]) := by rw [HB2.out.cell (p := ⟨g1, k, none⟩) hg1]; exact hx1
      have bb : 0 ≤ (k : Int) ∧ (k : Int) < (L : Nat) := by omega
      generalize ls[k] = y at *
      clear hx1
      go_wp2
      go_quiet (fail)
      go_wp2
      refine ⟨⟨k + 1, q + nq, by omega, ?_, by go_num, rfl⟩, by simp [intOf]; omega⟩
      simp
    · have ht := ltexts B0 hb n tv es w (w2.drewN q) hB0 HH.out hn hel (below_grown (belowN HB.out q) _) (HH.out.blk.below (belowN HB.out q)) (.slice la L lc) L _ HO.out (by omega)
      go_wp2_with (go_at_call 14; refine ht.mono ?_; rintro e w5 ⟨rfl, hex, hb5⟩; have HX := hidM hex; have HB5 := hidM ((belowN HB.out q).mono hB0 |>.trans hb5); clear hex hb5)
      go_ret
      exact ⟨ret_bool (by simp), HX.out, HB5.out⟩

theorem HeldAt.below {B0 : Nat} {w w' : World} {hb : Nat} {n : Int} {tv : Value} {es : List (Value × List UInt8)} (h : HeldAt B0 w hb n tv es) (hb' : Below w.heap.size w w') : HeldAt B0 w' hb n tv es :=
  ⟨h.base, h.blk.below hb', owns_below h.row hb', fun e he => (h.marks e he).keep (KeepS.of_below hb')⟩
theorem lunpack' (B0 hb n : Nat) (tv : Value) (es : List (Value × List UInt8)) (w : World) (s : ByteArray) (hs : s.size ≤ 4194304) (hB0 : B0 ≤ w.heap.size) (H : HeldAt B0 w hb n tv es) (hn : n ≤ 1000) (hel : es.length ≤ 1000) :
    Calls Try.prog 6 #[.pointer (some ⟨hb, 0, none⟩), .string s] w fun e w' => e = .returned (.bool true) ∧ (∃ tv' es', HeldAt B0 w' hb ((n + 1 : Nat) : Int) tv' es' ∧ es'.length = es.length + 4) ∧ Below B0 w w' :=
  lunpack B0 hb n tv es w s hs hB0 H hn hel
set_option maxRecDepth 10000 in
set_option maxHeartbeats 400000 in
theorem lpack (p : List UInt8) (w : World) (hs : p.length ≤ 140737488350000) : Calls Try.prog 5 #[.string (bs p)] w fun e w' => e = .returned (.bool true) ∧ Below w.heap.size w w' := by
  have h1 := vpack p w hs
  have h2 := fun w => ref_pack p w hs
  go_enter Try.func5, Try.ntmps5
  go_wp2_with (first
    | (go_at_call 9; refine h1.mono ?_; rintro e w1 ⟨rfl, hb1⟩)
    | (go_at_call 7; refine (h2 _).mono ?_; rintro e w2 ⟨rfl, hb2⟩))
  go_ret
  exact ⟨ret_bool (by simp), hb1.trans (hb2.mono hb1.size)⟩

set_option maxRecDepth 10000 in
set_option maxHeartbeats 2000000 in
theorem lframed (p b : List UInt8) (w : World) (hp : p.length ≤ 1048576) (hb : b.length ≤ 1048576) : Calls Try.prog 3 #[.string (bs p), .string (bs b)] w fun e w' => e = .returned (.bool true) ∧ Below w.heap.size w w' := by
  have h1 := fun w => lpack p w (by omega)
  have h2 := fun w => ref_pack p w (by omega)
  have hpl := packL_length p
  go_enter Try.func3, Try.ntmps3
  have hba : Below w.heap.size w (w.alloc (.cells #[.int .i64 0, .slice none 0 0] 25)) := (Below.refl _ _).alloc (Nat.le_refl _) _
  have hst : ∀ w1, Below (w.alloc (.cells #[.int .i64 0, .slice none 0 0] 25)).heap.size (w.alloc (.cells #[.int .i64 0, .slice none 0 0] 25)) w1 → HeldAt w.heap.size w1 w.heap.size ((0 : Nat) : Int) (.slice none 0 0) [] ∧ Below w.heap.size w w1 := fun w1 h =>
    ⟨⟨Nat.le_refl _, HBk.below (heap_alloc_new w _) h, World.ownsRow_nil _ _ _ _, by simp⟩, hba.trans (h.mono (by simp))⟩
  have HST := hidM hst
  clear hst hba
  have u1 := fun (w' : World) (hw : w.heap.size ≤ w'.heap.size) (n : Nat) (tv : Value) (es : List (Value × List UInt8)) (H : HeldAt w.heap.size w' w.heap.size n tv es) (hn : n ≤ 1000) (hel : es.length ≤ 1000) => lunpack' w.heap.size w.heap.size n tv es w' (bs b) (by rw [bs_size]; omega) hw H hn hel
  have u2 := fun (w' : World) (hw : w.heap.size ≤ w'.heap.size) (n : Nat) (tv : Value) (es : List (Value × List UInt8)) (H : HeldAt w.heap.size w' w.heap.size n tv es) (hn : n ≤ 1000) (hel : es.length ≤ 1000) => lunpack' w.heap.size w.heap.size n tv es w' (bs (b ++ packL p)) (by rw [bs_size, List.length_append]; omega) hw H hn hel
  have happ := bs_append b (packL p)
  go_wp2_with (go_at_call 5; refine (h1 _).mono ?_; rintro e w1 ⟨rfl, hb1⟩)
  obtain ⟨H1, B1⟩ := HST.out _ hb1
  refine (u1 w1 B1.size 0 _ _ H1 (by omega) (by simp)).mono ?_
  rintro e w2 ⟨rfl, ⟨tv2, es2, H2, l2⟩, hb2⟩
  have B2 := B1.trans hb2
  go_wp2_with (first
    | (go_at_call 7; refine (h2 _).mono ?_; rintro e w3 ⟨rfl, hb3⟩))
  have H3 := H2.below hb3
  have B3 := B2.trans (hb3.mono B2.size)
  refine (u2 w3 B3.size 1 _ _ H3 (by omega) (by rw [l2]; simp)).mono ?_
  rintro e w4 ⟨rfl, ⟨tv4, es4, H4, l4⟩, hb4⟩
  have B4 := B3.trans hb4
  have u4 := u1 w4 B4.size 2 _ _ H4 (by omega) (by rw [l4, l2]; simp)
  have HU := hidM u4
  clear u4
  go_wp2_with (go_at_call 6; refine HU.out.mono ?_)
  rintro e w5 ⟨rfl, ⟨tv5, es5, H5, l5⟩, hb5⟩
  have B5 := B4.trans hb5
  have hd := ldry w.heap.size w.heap.size _ tv5 es5 w5 H5 (by rw [l5, l4, l2]; simp)
  go_wp2_with (go_at_call 8; refine hd.mono ?_; rintro e w6 ⟨rfl, hb6⟩)
  go_ret
  exact ⟨rfl, B5.trans (hb6.mono B5.size)⟩
end Go.Proofs.Ytnpjldffciociaa
