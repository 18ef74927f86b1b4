import Derived.Test.YtnpjldffciociaaFrL
namespace Go.Proofs.Ytnpjldffciociaa
open Go.RowKit

/-- A list that is full of its mark. -/
def Mk (L : Nat) (w : World) (v : Value) (m : List UInt8) : Prop :=
  ∃ va n vc, v = .slice va n vc ∧ n ≤ L ∧ ∀ i, i < n → ∃ g cur, va = some ⟨g, 0, none⟩ ∧ w.heap[g]? = some (.cells cur 9 (0, 0)) ∧ cur[i]? = some (sv m)
/-- Rows of strings are as they were. -/
def KeepS (w w' : World) : Prop := ∀ (g : Nat) (cur : Array Value), w.heap[g]? = some (.cells cur 9 (0, 0)) → w'.heap[g]? = some (.cells cur 9 (0, 0))
theorem KeepS.refl (w : World) : KeepS w w := fun _ _ h => h
theorem KeepS.trans {a b c : World} (h : KeepS a b) (h' : KeepS b c) : KeepS a c := fun g cur hg => h' g cur (h g cur hg)
theorem KeepS.of_grown {w w' : World} {row : Option Nat} (h : w.grownBy w' row) (hr : ∀ (g : Nat) (cur : Array Value), row = some g → w.heap[g]? ≠ some (.cells cur 9 (0, 0))) : KeepS w w' :=
  fun g cur hg => (h.block g (Array.getElem?_eq_some_iff.1 hg).1 (fun e => hr g cur e.symm hg)).trans hg
theorem KeepS.of_below {w w' : World} (h : Below w.heap.size w w') : KeepS w w' := fun g _ hg => (h.block g (Array.getElem?_eq_some_iff.1 hg).1).trans hg
theorem Mk.keep {L : Nat} {w w' : World} {v : Value} {m : List UInt8} (h : Mk L w v m) (hk : KeepS w w') : Mk L w' v m := by
  obtain ⟨va, n, vc, rfl, hn, hc⟩ := h
  refine ⟨va, n, vc, rfl, hn, fun i hi => ?_⟩
  obtain ⟨g, cur, e, hg, hx⟩ := hc i hi
  exact ⟨g, cur, e, hk g cur hg, hx⟩
theorem Mk.mono {L L' : Nat} {w : World} {v : Value} {m : List UInt8} (h : Mk L w v m) (hl : L ≤ L') : Mk L' w v m := by
  obtain ⟨va, n, vc, rfl, hn, hc⟩ := h
  exact ⟨va, n, vc, rfl, Nat.le_trans hn hl, hc⟩
theorem own_block {w : World} {base : Nat} {e : TypeId} {size : Nat} {v : Value} {n : Nat} {xs : List Value} (h : w.ownsRow base e size v n xs) {g : Nat} (hg : v.ownBlock = some g) : ∃ cur, w.heap[g]? = some (.cells cur e (0, 0)) ∧ cur.toList.take (n * size) = xs ∧ base ≤ g := by
  rcases h.2 with ⟨rfl, _⟩ | ⟨g', cap, cur, rfl, hb, hh, _, _, _, ht⟩
  · simp [Value.ownBlock] at hg
  · have : g' = g := by simpa [Value.ownBlock] using hg
    subst this
    exact ⟨cur, hh, ht, hb⟩
theorem own_keep {w w' : World} {base : Nat} {v : Value} {n : Nat} {xs : List Value} (h : w.ownsRow base 9 1 v n xs) (hk : KeepS w w') : w'.ownsRow base 9 1 v n xs := by
  refine ⟨h.1, ?_⟩
  rcases h.2 with h0 | ⟨g', cap, cur, rfl, hb, hh, h1, h2, h3, ht⟩
  · exact Or.inl h0
  · exact Or.inr ⟨g', cap, cur, rfl, hb, hk g' cur hh, h1, h2, h3, ht⟩
theorem Mk.of_owns {w : World} {base : Nat} {v : Value} {L : Nat} {m : List UInt8} (h : w.ownsRow base 9 1 v L (List.replicate L (sv m))) : Mk L w v m := by
  rcases h.2 with ⟨rfl, h0⟩ | ⟨g', cap, cur, rfl, hb, hh, h1, h2, h3, ht⟩
  · exact ⟨none, 0, 0, rfl, by omega, fun i hi => by omega⟩
  · refine ⟨_, _, _, rfl, Nat.le_refl _, fun i hi => ⟨g', cur, rfl, hh, ?_⟩⟩
    have h5 : (cur.toList.take (L * 1))[i]? = (List.replicate L (sv m))[i]? := by rw [ht]
    rw [List.getElem?_take_of_lt (by omega), List.getElem?_replicate, if_pos hi] at h5
    simpa using h5
/-- The row that it lies in, or another, has grown. -/
theorem Mk.append {w w' : World} {base L : Nat} {v gv : Value} {m : List UInt8} {xs : List Value} (h : Mk L w v m) (ho : w.ownsRow base 9 1 gv L xs) (ho' : w'.ownsRow base 9 1 gv L xs)
    (hg : w.grownBy w' gv.ownBlock) : Mk L w' v m := by
  obtain ⟨va, n, vc, rfl, hn, hc⟩ := h
  refine ⟨va, n, vc, rfl, hn, fun i hi => ?_⟩
  obtain ⟨g, cur, e, hh, hx⟩ := hc i hi
  by_cases hb : gv.ownBlock = some g
  · obtain ⟨c1, h1, t1, _⟩ := own_block ho hb
    obtain ⟨c2, h2, t2, _⟩ := own_block ho' hb
    refine ⟨g, c2, e, h2, ?_⟩
    have he : c1 = cur := by
      have := h1.symm.trans hh
      simpa using this
    subst he
    have h3 : (c1.toList.take (L * 1))[i]? = (c2.toList.take (L * 1))[i]? := by rw [t1, t2]
    rw [List.getElem?_take_of_lt (by omega), List.getElem?_take_of_lt (by omega)] at h3
    simpa [hx] using h3.symm
  · exact ⟨g, cur, e, (hg.block g (Array.getElem?_eq_some_iff.1 hh).1 (fun e' => hb e'.symm)).trans hh, hx⟩

def flatE (es : List (Value × List UInt8)) : List Value := es.flatMap fun e => [e.1, sv e.2]
theorem flatE_snoc (es : List (Value × List UInt8)) (e : Value × List UInt8) : flatE (es ++ [e]) = flatE es ++ [e.1, sv e.2] := by simp [flatE]
structure HeldAt (B0 : Nat) (w : World) (hb : Nat) (n : Int) (tv : Value) (es : List (Value × List UInt8)) : Prop where
  base : B0 ≤ hb
  blk : HBk w hb n tv
  row : w.ownsRow B0 42 2 tv es.length (flatE es)
  marks : ∀ e ∈ es, Mk 8000000 w e.1 e.2
/-- On the way through texts. -/
structure St (B0 : Nat) (w0 w : World) (hb : Nat) (n : Int) (m : List UInt8) (es : List (Value × List UInt8)) (L : Nat) (gv tv : Value) (nes : List (Value × List UInt8)) (wr : World) : Prop where
  blk : HBk wr hb n tv
  row : wr.ownsRow B0 42 2 tv (es.length + nes.length) (flatE (es ++ nes))
  own : wr.ownsRow w0.heap.size 9 1 gv L (List.replicate L (sv m))
  keep : KeepS w0 wr
  marks : ∀ e ∈ nes, e.2 = m ∧ Mk L wr e.1 m
  below : Below B0 w wr
  size : w0.heap.size ≤ wr.heap.size
theorem hbk_ne {w : World} {hb : Nat} {n : Int} {tv v : Value} {base : Nat} {e : TypeId} {size k : Nat} {xs : List Value} (h : HBk w hb n tv) (ho : w.ownsRow base e size v k xs) (he : e ≠ 25) : v.ownBlock ≠ some hb := by
  intro hg
  obtain ⟨cur, hc, _⟩ := own_block ho hg
  have := hc.symm.trans h
  simp at this
  exact he this.2
theorem rows_ne {w : World} {v u : Value} {base base' : Nat} {e e' : TypeId} {size k size' k' : Nat} {xs xs' : List Value} (ho : w.ownsRow base e size v k xs) (ho' : w.ownsRow base' e' size' u k' xs') (he : e ≠ e') : v.ownBlock = none ∨ v.ownBlock ≠ u.ownBlock := by
  cases hv : v.ownBlock with
  | none => exact Or.inl rfl
  | some g =>
    refine Or.inr fun hg => ?_
    obtain ⟨cur, hc, _⟩ := own_block ho hv
    obtain ⟨cur', hc', _⟩ := own_block ho' hg.symm
    have := hc.symm.trans hc'
    simp at this
    exact he this.2
theorem HBk.grown {w w' : World} {hb : Nat} {n : Int} {tv : Value} {row : Option Nat} (h : HBk w hb n tv) (hg : w.grownBy w' row) (hr : row ≠ some hb) : HBk w' hb n tv :=
  (hg.block hb (Array.getElem?_eq_some_iff.1 h).1 (fun e => hr e.symm)).trans h
theorem HBk.keepS {w w' : World} {hb : Nat} {n : Int} {tv : Value} (h : HBk w hb n tv) (hg : w.grownBy w' (some hb)) : KeepS w w' := by
  refine KeepS.of_grown hg fun g cur e hg' => ?_
  cases e
  have := h.symm.trans hg'
  simp at this

theorem St.text {B0 : Nat} {w0 w : World} {hb : Nat} {n : Int} {m : List UInt8} {es : List (Value × List UInt8)} {L : Nat} {gv tv tv' : Value} {nes : List (Value × List UInt8)} {wr w3 : World} (h : St B0 w0 w hb n m es L gv tv nes wr) (hB0 : B0 ≤ w0.heap.size) (hbb : B0 ≤ hb)
    (hrow : w3.ownsRow B0 42 2 tv' (es.length + nes.length + 1) (flatE (es ++ nes) ++ [gv, sv m]))
    (hg : (wr.alloc (.cells #[gv, sv m] 42)).grownBy w3 tv.ownBlock) : St B0 w0 w hb n m es L gv tv' (nes ++ [(gv, m)]) (w3.setCell ⟨hb, 1, none⟩ tv') := by
  have hba : Below wr.heap.size wr (wr.alloc (.cells #[gv, sv m] 42)) := (Below.refl _ _).alloc (Nat.le_refl _) _
  have hblk1 : HBk (wr.alloc (.cells #[gv, sv m] 42)) hb n tv := h.blk.below hba
  have hrow1 := owns_below h.row hba
  have hne := hbk_ne hblk1 hrow1 (by decide)
  have hblk3 : HBk w3 hb n tv := hblk1.grown hg hne
  have hk3 : KeepS wr w3 := (KeepS.of_below hba).trans (KeepS.of_grown hg fun g cur e hg' => by
    obtain ⟨c, hc, _⟩ := own_block hrow1 e
    have := hc.symm.trans hg'
    simp at this)
  have hk4 : KeepS wr (w3.setCell ⟨hb, 1, none⟩ tv') := hk3.trans (hblk3.keepS (grown_set _ _ _ _))
  refine ⟨hblk3.set1 _, ?_, own_keep h.own hk4, h.keep.trans hk4, ?_, ?_, ?_⟩
  · have hne3 := hbk_ne hblk3 hrow (by decide)
    have := hrow.kept (grown_set w3 hb 1 tv') (Or.inr hne3)
    rw [← List.append_assoc, flatE_snoc, List.length_append]
    exact this
  · intro e he
    rcases List.mem_append.1 he with he | he
    · exact ⟨(h.marks e he).1, (h.marks e he).2.keep hk4⟩
    · simp at he
      subst he
      exact ⟨rfl, (Mk.of_owns h.own).keep hk4⟩
  · have h1 : Below B0 w (wr.alloc (.cells #[gv, sv m] 42)) := h.below.alloc (Nat.le_trans hB0 h.size) _
    exact (h1.grown hg (by have := h.size; simp; omega) (fun k hk => (own_block hrow1 hk).choose_spec.2.2)).setCell (p := ⟨hb, 1, none⟩) hbb _
  · have h1 := hg.size
    have h2 := h.size
    simp [World.setCell] at h1 ⊢
    omega
theorem St.mid {B0 : Nat} {w0 w : World} {hb : Nat} {n : Int} {m : List UInt8} {es : List (Value × List UInt8)} {L : Nat} {gv tv : Value} {nes : List (Value × List UInt8)} {wr w3 : World} (h : St B0 w0 w hb n m es L gv tv nes wr)
    (hg : (wr.alloc (.cells #[gv, sv m] 42)).grownBy w3 tv.ownBlock) : HBk w3 hb n tv := by
  have hba : Below wr.heap.size wr (wr.alloc (.cells #[gv, sv m] 42)) := (Below.refl _ _).alloc (Nat.le_refl _) _
  exact (h.blk.below hba).grown hg (hbk_ne (h.blk.below hba) (owns_below h.row hba) (by decide))
theorem St.grow {B0 : Nat} {w0 w : World} {hb : Nat} {n : Int} {m : List UInt8} {es : List (Value × List UInt8)} {L : Nat} {gv gv' tv : Value} {nes : List (Value × List UInt8)} {wr w3 : World} (h : St B0 w0 w hb n m es L gv tv nes wr) (hB0 : B0 ≤ w0.heap.size)
    (hrow : w3.ownsRow w0.heap.size 9 1 gv' (L + 1) (List.replicate L (sv m) ++ [sv m])) (hg : (wr.alloc (.cells #[sv m] 9)).grownBy w3 gv.ownBlock)
    (hst : w3.ownsRow w0.heap.size 9 1 gv L (List.replicate L (sv m))) : St B0 w0 w hb n m es (L + 1) gv' tv nes w3 := by
  have hba : Below wr.heap.size wr (wr.alloc (.cells #[sv m] 9)) := (Below.refl _ _).alloc (Nat.le_refl _) _
  have hblk1 : HBk (wr.alloc (.cells #[sv m] 9)) hb n tv := h.blk.below hba
  have hown1 := owns_below h.own hba
  have hrow1 := owns_below h.row hba
  have hne := hbk_ne hblk1 hown1 (by decide)
  refine ⟨hblk1.grown hg hne, hrow1.kept hg (rows_ne hrow1 hown1 (by decide)), ?_, ?_, ?_, ?_, ?_⟩
  · rw [List.replicate_succ']; exact hrow
  · intro g cur hg0
    have hlt : g < w0.heap.size := (Array.getElem?_eq_some_iff.1 hg0).1
    have h1 := KeepS.of_below hba g cur (h.keep g cur hg0)
    refine (hg.block g (Array.getElem?_eq_some_iff.1 h1).1 fun e => ?_).trans h1
    obtain ⟨c, _, _, hb'⟩ := own_block hown1 e.symm
    omega
  · intro e he
    exact ⟨(h.marks e he).1, (((h.marks e he).2.keep (KeepS.of_below hba)).append hown1 hst hg).mono (by omega)⟩
  · have h1 : Below B0 w (wr.alloc (.cells #[sv m] 9)) := h.below.alloc (Nat.le_trans hB0 h.size) _
    exact h1.grown hg (by have := h.size; simp; omega) (fun k hk => Nat.le_trans hB0 (own_block hown1 hk).choose_spec.2.2)
  · have h1 := hg.size
    have h2 := h.size
    simp at h1
    omega
end Go.Proofs.Ytnpjldffciociaa
