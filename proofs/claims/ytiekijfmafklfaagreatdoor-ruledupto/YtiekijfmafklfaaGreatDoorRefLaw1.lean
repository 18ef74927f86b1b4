import Derived.Test.YtiekijfmafklfaaGreatDoorRefRule4
namespace Go.Proofs.YtiekijfmafklfaaGreatDoor
open Go.RowKit

theorem append_grow {P : Program} {ops : Array Oper} {rest : List Oper} {o : Oper} {a : Act} {w : World} {Q : Exit → Act → World → Prop} (hgd : o.guard = none) (s x : Operand) (t : TypeId)
    (ho : o.op = .call { callee := .builtin .append, args := #[s, x], argTypes := #[t, t] })
    (base : Nat) (e : TypeId) (i : TypeInfo) (z : Value) (bytes : Nat) (ht : P.underlying t = some (.slice e)) (hi : P.info? e = some i) (hz : i.zero = some z)
    (hsize : i.size = 1) (hby : i.bytes = bytes) (hzs : z.cells.size = 1)
    (v : Value) (n : Nat) (xs : List Value) (hs : a.eval s = v) (hown : w.ownsRow base e 1 v n xs)
    (u : Value) (hx : a.eval x = .slice (some ⟨w.heap.size, 0, none⟩) 1 1) (h1 : u.oneCell' = true)
    (h63 : n + 1 ≤ maxLen) (hbytes : (n + 1) * bytes ≤ 140737488355328) (hbase : base ≤ w.heap.size)
    (h : ∀ v' w', w'.ownsRow base e 1 v' (n + 1) (xs ++ [u]) → (w.alloc (.cells #[u] e)).grownBy w' v.ownBlock → wpList P ops Q rest (a.put o.dst v') w') :
    wpList P ops Q (o :: rest) a (w.alloc (.cells #[u] e)) := by
  refine wpList_append_own _ hgd s x t ho base e i z 1 bytes ht hi hz hsize hby hzs (by decide) v n xs hs (hown.alloc _) ⟨w.heap.size, 0, none⟩ 1 1 [u] hx rfl ?_ ?_ h63 hbytes (by simp; omega) ?_
  · intro j y hj
    match j, hj with
    | 0, hj => simp at hj; subst hj; simp [Addr.add]
  · intro y hy
    simp at hy; subst hy; exact h1
  · intro v' w' h2 h3 _
    exact h v' w' h2 h3
theorem Tryz.infoStrs : (Tryz.prog.info? 55).map (fun i => (i.zero, i.size, i.bytes)) = some (some (.slice none 0 0), 1, 24) := by kernel_rfl

theorem own_str {w w' : World} {B base : Nat} {v : Value} {n : Nat} {xs : List Value} (h : w.ownsRow base 9 1 v n xs) (hk : Kp B w w') : w'.ownsRow base 9 1 v n xs := by
  obtain ⟨hl, ⟨rfl, rfl⟩ | ⟨g, cap, cur, rfl, hb1, hh, hr⟩⟩ := h
  · exact ⟨hl, .inl ⟨rfl, rfl⟩⟩
  · exact ⟨hl, .inr ⟨g, cap, cur, rfl, hb1, hk.str _ _ _ hh, hr⟩⟩
/-- Rules, each as its words. -/
def LsOwn (w : World) (B : Nat) (v : Value) (ls : List (List (List UInt8))) : Prop :=
  ∃ lvs : List Value, lvs.length = ls.length ∧ w.ownsRow B 55 1 v ls.length lvs ∧ ∀ (k : Nat) (u : Value) (ws : List (List UInt8)), lvs[k]? = some u → ls[k]? = some ws → w.ownsRow B 9 1 u ws.length (ws.map fun l => .string (bs l))
theorem LsOwn.nil (w : World) (B : Nat) : LsOwn w B (.slice none 0 0) [] := ⟨[], rfl, ⟨rfl, .inl ⟨rfl, rfl⟩⟩, fun k u ws h => by simp at h⟩
theorem LsOwn.below {w w' : World} {B : Nat} {v : Value} {ls : List (List (List UInt8))} (h : LsOwn w B v ls) (hb : Below w.heap.size w w') : LsOwn w' B v ls := by
  obtain ⟨lvs, h1, h2, h3⟩ := h
  exact ⟨lvs, h1, owns_below h2 hb, fun k u ws hu hw => owns_below (h3 k u ws hu hw) hb⟩
/-- One rule more. -/
theorem LsOwn.snoc {w w3 : World} {B : Nat} {v v' vw : Value} {ls : List (List (List UInt8))} {ws : List (List UInt8)} {lvs : List Value} {o : Obj} (h1 : lvs.length = ls.length) (h2 : w.ownsRow B 55 1 v ls.length lvs) (h3 : ∀ (k : Nat) (u : Value) (ws : List (List UInt8)), lvs[k]? = some u → ls[k]? = some ws → w.ownsRow B 9 1 u ws.length (ws.map fun l => .string (bs l)))
    (hw : w.ownsRow B 9 1 vw ws.length (ws.map fun l => .string (bs l))) (hB : B ≤ w.heap.size) (ho : w3.ownsRow B 55 1 v' (ls.length + 1) (lvs ++ [vw])) (hg : (w.alloc o).grownBy w3 v.ownBlock) : LsOwn w3 B v' (ls ++ [ws]) ∧ Kp B w w3 := by
  have ha : Below w.heap.size w (w.alloc o) := (Below.refl _ _).alloc (Nat.le_refl _) _
  have hoa := owns_below h2 ha
  have hs : ∀ (k : Nat) (cs : Array Value) (fz : Nat × Nat), w.heap[k]? = some (.cells cs 9 fz) → w3.heap[k]? = some (.cells cs 9 fz) := by
    intro k cs fz hk
    have hk2 : k < w.heap.size := (Array.getElem?_eq_some_iff.1 hk).1
    have hka := (ha.block k hk2).trans hk
    refine (hg.block k (by simp; omega) fun e => ?_).trans hka
    obtain ⟨⟨cur, hc⟩, _⟩ := own_type hoa e.symm
    have := hka.symm.trans hc
    simp at this
  have hkp : Kp B w w3 := ⟨((Below.refl B w).alloc hB o).grown hg (by simp; omega) (fun k hk => by have := own_ge hoa hk; omega), hs⟩
  refine ⟨⟨lvs ++ [vw], by simp [h1], by simpa using ho, fun k u xs hu hx => ?_⟩, hkp⟩
  by_cases hlt : k < ls.length
  · exact own_str (h3 k u xs (by rw [List.getElem?_append_left (by omega)] at hu; exact hu) (by rw [List.getElem?_append_left hlt] at hx; exact hx)) hkp
  · have hk : k = ls.length := by
      have := (List.getElem?_eq_some_iff.1 hx).1
      simp at this; omega
    subst hk
    have e1 : xs = ws := by simpa using hx.symm
    have e2 : u = vw := by
      rw [← h1] at hu
      simpa using hu.symm
    subst e1 e2
    exact own_str hw hkp
/-- Two masks of one column. -/
def dupW (a ws : List (List UInt8)) : Bool := wordAt a 0 == wMask && wordAt ws 0 == wMask && wordAt a 1 == wordAt ws 1 && wordAt a 2 == wordAt ws 2
/-- The rules, by the document. -/
def lawR (ts : List (List UInt8 × List Bool)) : Nat → List (List (List UInt8)) → List (List UInt8) → Bool
  | _, _, [] => true
  | n, ls, p :: r => ruleR ts (spl 32 p) && decide (n + (spl 32 p).length ≤ 60) && !(ls.any fun a => dupW a (spl 32 p)) && lawR ts (n + (spl 32 p).length) (ls ++ [spl 32 p]) r
theorem ruleR_len {ts : List (List UInt8 × List Bool)} {ws : List (List UInt8)} (hn : ∀ t ∈ ts, t.1 ≠ []) (h : ruleR ts ws = true) : 1 < ws.length ∧ (wordAt ws 0 = wMask → 3 < ws.length) := by
  unfold ruleR at h
  split at h
  · cases h
  · rename_i t ht
    refine ⟨(findT_word hn ht).1, fun e => ?_⟩
    rw [if_neg (by rw [e]; decide), if_pos e] at h
    split at h
    · cases h
    · split at h
      · cases h
      · rename_i b hb
        exact valKind_lt hb
end Go.Proofs.YtiekijfmafklfaaGreatDoor
