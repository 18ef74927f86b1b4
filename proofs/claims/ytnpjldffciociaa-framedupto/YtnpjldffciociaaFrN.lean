import Derived.Test.YtnpjldffciociaaFrM
namespace Go.Proofs.Ytnpjldffciociaa
open Go.RowKit

theorem Try.infoHT : (Try.prog.info? 42).map (fun i => (i.zero, i.size, i.bytes)) = some (some (.agg #[.slice none 0 0, .string ByteArray.empty]), 2, 40) := by kernel_rfl
theorem grown_trans {a b c : World} {row : Option Nat} (h : a.grownBy b row) (h' : b.grownBy c row) : a.grownBy c row :=
  ⟨h'.os.trans h.os, h'.tape.trans h.tape, h'.output.trans h.output, Nat.le_trans h.size h'.size, fun k hk hne => (h'.block k (Nat.lt_of_lt_of_le hk h.size) hne).trans (h.block k hk hne)⟩
theorem addz (g j : Nat) : (⟨g, 0, none⟩ : Addr).add j = ⟨g, j, none⟩ := by simp [Addr.add]; omega
theorem grown_refl (a : World) (row : Option Nat) : a.grownBy a row := ⟨rfl, rfl, rfl, Nat.le_refl _, fun _ _ _ => rfl⟩
theorem set_step {xs : List Value} {j k : Nat} (a : Value) (hx : xs.length = k) (hj : j < k) : (List.replicate j a ++ xs.drop j).set j a = List.replicate (j + 1) a ++ xs.drop (j + 1) := by
  rw [List.set_append_right _ _ (by simp), List.length_replicate, Nat.sub_self, List.drop_eq_getElem_cons (by omega), List.set_cons_zero, List.replicate_succ', List.append_assoc]; rfl
theorem row_slice {w : World} {base : Nat} {e : TypeId} {size : Nat} {v : Value} {n : Nat} {xs : List Value} (h : w.ownsRow base e size v n xs) : ∃ va vc, v = .slice va n vc ∧ (0 < n → ∃ g, va = some ⟨g, 0, none⟩) := by
  rcases h.2 with ⟨rfl, h0⟩ | ⟨g, cap, cur, rfl, _⟩
  · exact ⟨none, 0, by rw [h0], fun h => by omega⟩
  · exact ⟨_, _, rfl, fun _ => ⟨g, rfl⟩⟩
theorem cells_new' (w : World) (us : List Value) (t : TypeId) (b : Nat) (hb : b = w.heap.size) : ∀ j u, us[j]? = some u → (w.alloc (.cells us.toArray t)).cell? ((⟨b, 0, none⟩ : Addr).add j) = some u := by
  subst hb; exact cells_new w us t
/-- The state in which the marks begin to be kept. -/
theorem St.start {B0 : Nat} {w0 w w1 w2 : World} {hb : Nat} {n n' : Int} {m : List UInt8} {es : List (Value × List UInt8)} {k : Nat} {l tv : Value} {xs : List Value} (hB0 : B0 ≤ w0.heap.size) (H0 : HeldAt B0 w0 hb n tv es)
    (hst : w0.grownBy w (some hb)) (hg1 : w.grownBy w1 (some hb)) (hbk1 : HBk w1 hb n' tv) (hl1 : w1.ownsRow w0.heap.size 9 1 l k xs)
    (hg2 : w1.grownBy w2 l.ownBlock) (hl2 : w2.ownsRow w0.heap.size 9 1 l k (List.replicate k (sv m))) :
    St B0 w0 w hb n' m es k l tv [] w2 ∧ KeepS w0 w2 := by
  have hst1 : w0.grownBy w1 (some hb) := grown_trans hst hg1
  have hne := hbk_ne hbk1 hl1 (by decide)
  have hk1 : KeepS w0 w1 := H0.blk.keepS hst1
  have hk2 : KeepS w0 w2 := by
    intro g cur hg
    have h1 := hk1 g cur hg
    have hlt : g < w0.heap.size := (Array.getElem?_eq_some_iff.1 hg).1
    refine (hg2.block g (Array.getElem?_eq_some_iff.1 h1).1 fun e => ?_).trans h1
    obtain ⟨c, _, _, hb'⟩ := own_block hl1 e.symm
    omega
  have hrow1 : w1.ownsRow B0 42 2 tv es.length (flatE es) := H0.row.kept hst1 (Or.inr (hbk_ne H0.blk H0.row (by decide)))
  refine ⟨⟨hbk1.grown hg2 hne, ?_, hl2, hk2, by simp, ?_, Nat.le_trans hst1.size hg2.size⟩, hk2⟩
  · simpa using hrow1.kept hg2 (rows_ne hrow1 hl1 (by decide))
  · have h1 : Below B0 w w1 := (Below.refl B0 w).grown hg1 (Nat.le_trans hB0 hst.size) (fun k hk => by cases hk; exact H0.base)
    exact h1.grown hg2 (Nat.le_trans hB0 hst1.size) (fun k hk => Nat.le_trans hB0 (own_block hl1 hk).choose_spec.2.2)
theorem St.held {B0 : Nat} {w0 w : World} {hb : Nat} {n n' : Int} {m : List UInt8} {es : List (Value × List UInt8)} {L : Nat} {gv tv tv0 : Value} {nes : List (Value × List UInt8)} {wr : World} (h : St B0 w0 w hb n' m es L gv tv nes wr) (H0 : HeldAt B0 w0 hb n tv0 es) (hL : L ≤ 8000000) :
    HeldAt B0 wr hb n' tv (es ++ nes) := by
  refine ⟨H0.base, h.blk, by rw [List.length_append]; exact h.row, fun e he => ?_⟩
  rcases List.mem_append.1 he with he | he
  · exact (H0.marks e he).keep h.keep
  · have := h.marks e he
    rw [this.1]; exact this.2.mono hL

set_option maxRecDepth 10000 in
set_option maxHeartbeats 2000000 in
theorem ltexts (B0 hb n : Nat) (tv : Value) (es : List (Value × List UInt8)) (w0 w : World) (hB0 : B0 ≤ w0.heap.size) (H0 : HeldAt B0 w0 hb n tv es) (hn : n ≤ 1000) (hel : es.length ≤ 1000) (hst : w0.grownBy w (some hb)) (hbk : HBk w hb n tv)
    (l : Value) (k : Nat) (xs : List Value) (hl : w.ownsRow w0.heap.size 9 1 l k xs) (hk : k ≤ 4194304) :
    Calls Try.prog 14 #[.pointer (some ⟨hb, 0, none⟩), l] w fun e w' => e = .returned (.tuple #[]) ∧ (∃ tv' es', HeldAt B0 w' hb ((n : Int) + 1) tv' es' ∧ es'.length = es.length + 4) ∧ Below B0 w w' := by
  have hm := lmark hb n tv w hbk hn
  obtain ⟨la, lc, rfl, hla⟩ := row_slice hl
  have hbb := H0.base
  have hws0 := hst.size
  obtain ⟨i0, hi, hz0, hz1, hz2⟩ := info_parts Try.infoStr
  obtain ⟨j0, hj, hy0, hy1, hy2⟩ := info_parts Try.infoHT
  have HI := hidM hi
  have HZ0 := hidM hz0
  have HZ1 := hidM hz1
  have HZ2 := hidM hz2
  have HJ := hidM hj
  have HY0 := hidM hy0
  have HY1 := hidM hy1
  have HY2 := hidM hy2
  have HH0 := hidM H0
  have HST := hidM hst
  have HL := hidM hl
  have HLA := hidM hla
  have HBK := hidM hbk
  clear hi hz0 hz1 hz2 hj hy0 hy1 hy2 H0 hst hl hla hbk
  go_enter Try.func14, Try.ntmps14
  go_wp2_with (go_at_call 19; refine hm.mono ?_; rintro e w1 ⟨m, rfl, hg1, hbk1⟩)
  have HG1 := hidM hg1
  have HBK1 := hidM hbk1
  have HL1 := hidM (HL.out.kept hg1 (Or.inr (hbk_ne HBK.out HL.out (by decide))))
  clear hg1 hbk1 hm HL HBK
  go_loopw [5] (fun i wr => ∃ j : Nat, j ≤ k ∧ i = .int .i64 j ∧ Hid (wr.ownsRow w0.heap.size 9 1 (.slice la k lc) k (List.replicate j (sv m) ++ xs.drop j)) ∧ Hid (w1.grownBy wr (Value.slice la k lc).ownBlock)) (fun i _ => k - (intOf i).toNat)
  case atStart => exact ⟨0, by omega, rfl, hidM (by simpa using HL1.out), hidM (grown_refl _ _)⟩
  case round =>
    obtain ⟨j, hjk, rfl, HO, HG2⟩ := hrel
    by_cases hlt : j < k
    · obtain ⟨g, rfl⟩ := HLA.out (by omega)
      have hxl : xs.length = k := by have := HL1.out.1; simpa using this
      obtain ⟨cur, hcur, htk, _⟩ := own_block HO.out (g := g) rfl
      have hfz := Lib.frozen_of_heap hcur j
      have hcell : ∃ u, wr.cell? ⟨g, j, none⟩ = some u := by
        refine ⟨(List.replicate j (sv m) ++ xs.drop j)[j]'(by simp; omega), ?_⟩
        have := HO.out.cells (g := g) rfl j _ (List.getElem?_eq_getElem (by simp; omega))
        rwa [addz] at this
      obtain ⟨u, hcell⟩ := hcell
      have HO2 := hidM (owns_set HO.out (g := g) (i := j) rfl (sv m))
      rw [set_step (sv m) hxl hlt] at HO2
      have HG3 := hidM (grown_trans HG2.out (grown_set wr g j (sv m)))
      clear hcur htk HO HG2 hxl
      go_wp2
      exact ⟨⟨j + 1, by omega, by go_num, HO2, HG3⟩, by simp [intOf]; omega⟩
    · have hjk2 : j = k := by omega
      subst hjk2
      have hxl : xs.length = j := by have := HL1.out.1; simpa using this
      have hO2 : wr.ownsRow w0.heap.size 9 1 (.slice la j lc) j (List.replicate j (sv m)) := by
        have := HO.out
        rw [List.drop_of_length_le (by omega), List.append_nil] at this
        exact this
      obtain ⟨hS, -⟩ := St.start (m := m) hB0 HH0.out HST.out HG1.out HBK1.out HL1.out HG2.out hO2
      have HS := hidM hS
      clear hS hO2 HO HG2 HL1 HBK1 HG1 HST HLA hxl
      go_wp2
      go_loopw [6, 7] (fun gv i wr => ∃ (tq : Value) (nes : List (Value × List UInt8)), nes.length ≤ 3 ∧ i = .int .i64 nes.length ∧ Hid (St B0 w0 w hb ((n : Int) + 1) m es (j + nes.length) gv tq nes wr)) (fun _ i _ => 3 - (intOf i).toNat)
      case atStart => exact ⟨tv, [], by simp, rfl, HS⟩
      case round =>
        obtain ⟨tq, nes, hq, rfl, HS1⟩ := hrel
        obtain ⟨ga, gc, rfl, _⟩ := row_slice HS1.out.own
        obtain ⟨ta, tc, rfl, _⟩ := row_slice HS1.out.row
        obtain ⟨c0, c1, c2, c3⟩ := HS1.out.blk.cell
        have c2' := c2 1
        clear c2 c0
        have hsz := HS1.out.size
        by_cases hq3 : nes.length < 3
        · go_wp2_with (first
            | (at_builtin; refine wpList_append_still rfl _ _ 23 rfl B0 42 j0 (.agg #[.slice none 0 0, .string ByteArray.empty]) 2 40 Try.underlying23 HJ.out HY0.out HY1.out HY2.out rfl (by decide) _ _ _ rfl (HS1.out.row.alloc _) ⟨wr.heap.size, 0, none⟩ 1 1 [.slice ga (j + nes.length) gc, sv m] rfl rfl (cells_new wr _ _) ?ha ?hb ?hc ?hd ?_; (case ha => intro u hu; simp at hu; rcases hu with rfl | rfl <;> rfl); (case hb => unfold maxLen; omega); (case hc => omega); (case hd => simp; omega); intro tv' w3 hrow hg _ _ _; obtain ⟨ta', tc', rfl, _⟩ := row_slice hrow; have HS2 := hidM (HS1.out.text hB0 hbb hrow hg); have hsz3 : w0.heap.size ≤ w3.heap.size := (by have := HS2.out.size; simpa [World.setCell] using this); obtain ⟨e0, e1, e2, e3⟩ := (HS1.out.mid hg).cell; have e2' := e2 1; clear e2 e0 hrow hg HS1)
            | (at_builtin; refine wpList_append_still rfl _ _ 30 rfl w0.heap.size 9 i0 (.string ByteArray.empty) 1 16 Try.underlying30 HI.out HZ0.out HZ1.out HZ2.out rfl (by decide) _ _ _ rfl (HS2.out.own.alloc _) ⟨w3.heap.size, 0, none⟩ 1 1 [sv m] rfl rfl (cells_new' _ _ _ _ (by simp [World.setCell])) ?ha ?hb ?hc ?hd ?_; (case ha => intro u hu; simp at hu; subst hu; rfl); (case hb => unfold maxLen; omega); (case hc => omega); (case hd => simp; omega); intro gv' w5 hrow5 hg5 _ _ hst5; have HS3 := hidM (HS2.out.grow hB0 hrow5 hg5 hst5); clear hrow5 hg5 hst5 HS2))
          refine ⟨⟨_, nes ++ [(.slice ga (j + nes.length) gc, m)], by simp; omega, by simp, hidM (by rw [List.length_append]; exact HS3.out)⟩, by simp [intOf]; omega⟩
        · go_wp2_with (at_builtin; refine wpList_append_still rfl _ _ 23 rfl B0 42 j0 (.agg #[.slice none 0 0, .string ByteArray.empty]) 2 40 Try.underlying23 HJ.out HY0.out HY1.out HY2.out rfl (by decide) _ _ _ rfl (HS1.out.row.alloc _) ⟨wr.heap.size, 0, none⟩ 1 1 [.slice ga (j + nes.length) gc, sv m] rfl rfl (cells_new wr _ _) ?ha ?hb ?hc ?hd ?_; (case ha => intro u hu; simp at hu; rcases hu with rfl | rfl <;> rfl); (case hb => unfold maxLen; omega); (case hc => omega); (case hd => simp; omega); intro tv' w3 hrow hg _ _ _; obtain ⟨ta', tc', rfl, _⟩ := row_slice hrow; have HS2 := hidM (HS1.out.text hB0 hbb hrow hg); have hsz3 : w0.heap.size ≤ w3.heap.size := (by have := HS2.out.size; simpa [World.setCell] using this); obtain ⟨e0, e1, e2, e3⟩ := (HS1.out.mid hg).cell; have e2' := e2 1; clear e2 e0 hrow hg HS1)
          go_end0
          refine ⟨rfl, ⟨_, _, HS2.out.held HH0.out (by omega), by simp; omega⟩, HS2.out.below⟩
end Go.Proofs.Ytnpjldffciociaa
