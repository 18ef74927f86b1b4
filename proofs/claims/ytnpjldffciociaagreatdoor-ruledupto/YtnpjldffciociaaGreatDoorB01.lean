import Derived.Test.YtnpjldffciociaaGreatDoorProg
import Derived.WalkKit
import Derived.WalkSpells
import Derived.WalkLawsBesides
namespace Go.Proofs.YtnpjldffciociaaGreatDoor

/-- A list of bytes, cut at each byte c. -/
def spl (c : UInt8) : List UInt8 → List (List UInt8)
  | [] => [[]]
  | x :: xs => if x = c then [] :: spl c xs else
    match spl c xs with
    | [] => [[x]]
    | h :: t => (x :: h) :: t

theorem spl_ne_nil (c : UInt8) (l : List UInt8) : spl c l ≠ [] := by
  cases l with
  | nil => simp [spl]
  | cons x xs =>
    unfold spl
    split
    · simp
    · split <;> simp

theorem spl_none (c : UInt8) (l : List UInt8) (h : c ∉ l) : spl c l = [l] := by
  induction l with
  | nil => rfl
  | cons x xs ih =>
    have hx : ¬ x = c := fun e => h (by simp [e])
    rw [spl, if_neg hx, ih (fun e => h (by simp [e]))]

theorem spl_cut (c : UInt8) (a b : List UInt8) (h : c ∉ a) : spl c (a ++ c :: b) = a :: spl c b := by
  induction a with
  | nil => simp [spl]
  | cons x xs ih =>
    have hx : ¬ x = c := fun e => h (by simp [e])
    rw [List.cons_append, spl, if_neg hx, ih (fun e => h (by simp [e]))]

theorem spl_length (c : UInt8) (l : List UInt8) : (spl c l).length = l.count c + 1 := by
  induction l with
  | nil => rfl
  | cons x xs ih =>
    unfold spl
    by_cases h : x = c
    · simp [h, ih]
    · rw [if_neg h, List.count_cons_of_ne h]
      split
      · rename_i e; exact absurd e (spl_ne_nil c xs)
      · rename_i e; rw [e] at ih; simpa using ih

theorem spl_length_le (c : UInt8) (l : List UInt8) : (spl c l).length ≤ l.length + 1 := by
  rw [spl_length]; have := List.count_le_length (a := c) (l := l); omega

/-- A list of bytes as a string. -/
def bs (l : List UInt8) : ByteArray := ⟨l.toArray⟩
@[simp] theorem bs_toList (l : List UInt8) : (bs l).data.toList = l := rfl
theorem bs_eta (s : ByteArray) : bs s.data.toList = s := rfl
@[simp] theorem bs_size (l : List UInt8) : (bs l).size = l.length := rfl

theorem spl_mem_length (c : UInt8) (l : List UInt8) : ∀ x ∈ spl c l, x.length ≤ l.length := by
  induction l with
  | nil => intro x hx; simp [spl] at hx; simp [hx]
  | cons y ys ih =>
    intro x hx
    unfold spl at hx
    split at hx
    · rcases List.mem_cons.1 hx with rfl | hx
      · simp
      · have := ih x hx; simp; omega
    · split at hx
      · rename_i e; exact absurd e (spl_ne_nil c ys)
      · rename_i h t e
        rcases List.mem_cons.1 hx with rfl | hx
        · have := ih h (by rw [e]; simp); simp; omega
        · have := ih x (by rw [e]; simp [hx]); simp; omega

theorem extract_toList (s : ByteArray) (i j : Nat) : (s.extract i j).data.toList = (s.data.toList.take j).drop i := by
  rw [ByteArray.data_extract, Array.toList_extract, List.extract_eq_take_drop, ← List.drop_take]
end Go.Proofs.YtnpjldffciociaaGreatDoor
namespace Go.Proofs.YtnpjldffciociaaGreatDoor
open Go.RowKit

/-- 'append(l, u)', u of one cell, l of the call's own: the law with its side goals paid. -/
theorem append_one {P : Program} {ops : Array Oper} {rest : List Oper} {o : Oper} {a : Act} {w : World} {Q : Exit → Act → World → Prop} (hgd : o.guard = none) (s x : Operand) (t : TypeId)
    (ho : o.op = .call { callee := .builtin .append, args := #[s, x], argTypes := #[t, t] })
    (base : Nat) (e : TypeId) (i : TypeInfo) (z : Value) (bytes : Nat) (ht : P.underlying t = some (.slice e)) (hi : P.info? e = some i) (hz : i.zero = some z)
    (hsize : i.size = 1) (hby : i.bytes = bytes) (hzs : z.cells.size = 1)
    (v : Value) (n : Nat) (xs : List Value) (hs : a.eval s = v) (hown : w.ownsRow base e 1 v n xs)
    (u : Value) (hx : a.eval x = .slice (some ⟨w.heap.size, 0, none⟩) 1 1) (h1 : u.oneCell' = true)
    (h63 : n + 1 ≤ maxLen) (hbytes : (n + 1) * bytes ≤ 140737488355328) (hbase : base ≤ w.heap.size)
    (h : ∀ v' w', w'.ownsRow base e 1 v' (n + 1) (xs ++ [u]) → Below base w w' → v' ≠ .slice none 0 0 → wpList P ops Q rest (a.put o.dst v') w') :
    wpList P ops Q (o :: rest) a (w.alloc (.cells #[u] e)) := by
  refine wpList_append_own _ hgd s x t ho base e i z 1 bytes ht hi hz hsize hby hzs (by decide) v n xs hs (hown.alloc _) ⟨w.heap.size, 0, none⟩ 1 1 [u] hx rfl ?_ ?_ h63 hbytes (by simp; omega) ?_
  · intro j y hj
    match j, hj with
    | 0, hj => simp at hj; subst hj; simp [Addr.add]
  · intro y hy; simp at hy; subst hy; exact h1
  · intro v' w' ho' hg hn
    have hrow : ∀ k, v.ownBlock = some k → base ≤ k := by
      intro k hk
      rcases hown.2 with ⟨rfl, _⟩ | ⟨g, cap, cur, rfl, hb, _⟩
      · simp [Value.ownBlock] at hk
      · simp [Value.ownBlock] at hk; omega
    refine h v' w' ho' (((Below.refl base w).alloc hbase _).grown hg (by simp; omega) hrow) ?_
    intro e0
    have := hn.1 e0
    simp at this

/-- The slice value v reads as these cells (one cell an element). -/
def Reads (w : World) (v : Value) (xs : List Value) : Prop :=
  ∃ a cap, v = .slice a xs.length cap ∧ ∀ (i : Nat) u, xs[i]? = some u → ∃ b off, a = some ⟨b, off, none⟩ ∧ b < w.heap.size ∧ w.cell? ⟨b, off + i, none⟩ = some u

theorem Reads.below {w w' : World} {v : Value} {xs : List Value} (h : Reads w v xs) (hb : Below w.heap.size w w') : Reads w' v xs := by
  obtain ⟨a, cap, rfl, h⟩ := h
  refine ⟨a, cap, rfl, fun i u hi => ?_⟩
  obtain ⟨b, off, rfl, hlt, hc⟩ := h i u hi
  exact ⟨b, off, rfl, Nat.lt_of_lt_of_le hlt hb.size, (hb.cell (p := ⟨b, off + i, none⟩) hlt).trans hc⟩

theorem Reads.below' {B : Nat} {w w' : World} {v : Value} {xs : List Value} (h : Reads w v xs) (hb : Below B w w') (hB : w.heap.size ≤ B) : Reads w' v xs := h.below (hb.mono hB)

theorem Reads.alloc {w : World} {v : Value} {xs : List Value} (h : Reads w v xs) (o : Obj) : Reads (w.alloc o) v xs := h.below ((Below.refl _ _).alloc (Nat.le_refl _) o)

theorem Reads.nil (w : World) : Reads w (.slice none 0 0) [] := ⟨none, 0, rfl, fun i u h => by simp at h⟩

theorem Reads.of_owns {w : World} {base : Nat} {e : TypeId} {v : Value} {n : Nat} {xs : List Value} (h : w.ownsRow base e 1 v n xs) : Reads w v xs := by
  obtain ⟨hl, ⟨rfl, rfl⟩ | ⟨g, cap, cur, rfl, hb, hh, hn, hm, hs, ht⟩⟩ := h
  · simp at hl; subst hl; exact Reads.nil w
  · have hl' : xs.length = n := by simpa using hl
    refine ⟨some ⟨g, 0, none⟩, cap, by rw [hl'], fun i u hi => ⟨g, 0, rfl, ?_, ?_⟩⟩
    · exact (Array.getElem?_eq_some_iff.1 hh).1
    · have hi' : i < xs.length := (List.getElem?_eq_some_iff.1 hi).1
      rw [← ht] at hi
      rw [List.getElem?_take_of_lt (by omega)] at hi
      rw [Nat.zero_add]; simp only [World.cell?, hh]
      simpa using hi

/-- The slice value v reads as these tables: of each its name, and its types as 'enc' writes them. -/
def ReadsTabs (enc : Bool → Value) (w : World) (v : Value) (ts : List (List UInt8 × List Bool)) : Prop :=
  ∃ a cap, v = .slice a ts.length cap ∧ ∀ (i : Nat) t, ts[i]? = some t → ∃ b off tv, a = some ⟨b, off, none⟩ ∧ b < w.heap.size ∧ w.cell? ⟨b, off + i * 2, none⟩ = some (.string (bs t.1)) ∧
    w.cell? ⟨b, off + i * 2 + 1, none⟩ = some tv ∧ Reads w tv (t.2.map enc)

theorem ReadsTabs.below {enc : Bool → Value} {w w' : World} {v : Value} {ts : List (List UInt8 × List Bool)} (h : ReadsTabs enc w v ts) (hb : Below w.heap.size w w') : ReadsTabs enc w' v ts := by
  obtain ⟨a, cap, rfl, h⟩ := h
  refine ⟨a, cap, rfl, fun i t hi => ?_⟩
  obtain ⟨b, off, tv, rfl, hlt, hc, hd, hr⟩ := h i t hi
  exact ⟨b, off, tv, rfl, Nat.lt_of_lt_of_le hlt hb.size, (hb.cell (p := ⟨b, off + i * 2, none⟩) hlt).trans hc, (hb.cell (p := ⟨b, off + i * 2 + 1, none⟩) hlt).trans hd, hr.below hb⟩

/-- Which table has this name. -/
def findT (ts : List (List UInt8 × List Bool)) (name : List UInt8) : Option Nat := ts.findIdx? fun t => t.1 == name
theorem findT_step {ts : List (List UInt8 × List Bool)} {name : List UInt8} {k : Nat} (hk : k < ts.length) (h : findT (ts.take k) name = none) (hn : ¬ ts[k].1 = name) : findT (ts.take (k + 1)) name = none := by
  unfold findT at *
  rw [List.findIdx?_eq_none_iff] at *
  rw [List.take_succ_eq_append_getElem hk]
  intro x hx
  rcases List.mem_append.1 hx with hx | hx
  · exact h x hx
  · simp at hx; subst hx; simpa using hn
theorem findT_hit {ts : List (List UInt8 × List Bool)} {name : List UInt8} {k : Nat} (hk : k < ts.length) (h : findT (ts.take k) name = none) (hn : ts[k].1 = name) : findT ts name = some k := by
  unfold findT at *
  rw [List.findIdx?_eq_none_iff] at h
  rw [List.findIdx?_eq_some_iff_getElem]
  refine ⟨hk, by simpa using hn, fun j hj => ?_⟩
  have := h ts[j] (List.mem_take_iff_getElem.2 ⟨j, by omega, rfl⟩)
  simpa using this
def idxOf : Option Nat → Int
  | some i => i
  | none => -1
theorem ret_int {k : IntKind} {a b : Int} (h : a = b) : Ending.returned (.int k a) = .returned (.int k b) := by rw [h]
theorem ret_bool {a b : Bool} (h : a = b) : Ending.returned (.bool a) = .returned (.bool b) := by rw [h]
end Go.Proofs.YtnpjldffciociaaGreatDoor
namespace Go.Proofs.YtnpjldffciociaaGreatDoor

/-- The words of the language. -/
abbrev wAny : List UInt8 := [97, 110, 121]
abbrev wEq : List UInt8 := [101, 113]
abbrev wLt : List UInt8 := [108, 116]
abbrev wSame : List UInt8 := [115, 97, 109, 101]
abbrev wIn : List UInt8 := [105, 110]
abbrev wNot : List UInt8 := [110, 111, 116]
abbrev wAnd : List UInt8 := [97, 110, 100]
abbrev wOr : List UInt8 := [111, 114]

/-- What a word says of a condition that begins with it. -/
abbrev CWord := Sum Nat (Option (Bool × Bool))
abbrev CWord.any : CWord := .inr (some (false, false))
abbrev CWord.three (k : Nat) : CWord := .inl k
abbrev CWord.isin : CWord := .inr (some (false, true))
abbrev CWord.neg : CWord := .inr (some (true, false))
abbrev CWord.two : CWord := .inr (some (true, true))
abbrev CWord.none : CWord := .inr Option.none
def cword (x : List UInt8) : CWord :=
  if x = wAny then .any else if x = wEq then .three 0 else if x = wLt then .three 1 else if x = wSame then .three 2 else if x = wIn then .isin else if x = wNot then .neg
  else if x = wAnd then .two else if x = wOr then .two else .none

/-- How many words the condition has with which these begin (by the words alone), by so many steps at most. -/
def condLenF : Nat → List (List UInt8) → Option Nat
  | 0, _ => none
  | _ + 1, [] => none
  | k + 1, x :: r =>
    match cword x with
    | .inr (some (false, false)) => some 1
    | .inl _ => some 3
    | .inr (some (false, true)) => some 5
    | .inr (some (true, false)) => match condLenF k r with
      | none => none
      | some n => some (n + 1)
    | .inr (some (true, true)) => match condLenF k r with
      | none => none
      | some a => match condLenF k (r.drop a) with
        | none => none
        | some b => some (a + b + 1)
    | .inr none => none
/-- How many words the condition has with which these begin (by the words alone). -/
def condLen (l : List (List UInt8)) : Option Nat := condLenF (l.length + 1) l
theorem condLenF_le : ∀ (k : Nat) (l : List (List UInt8)), l.length < k → ∀ k', l.length < k' → condLenF k l = condLenF k' l := by
  intro k
  induction k with
  | zero => intro l h; omega
  | succ k ih =>
    intro l h k' h'
    match k', h' with
    | 0, h' => omega
    | k' + 1, h' =>
      match l, h, h' with
      | [], _, _ => rfl
      | x :: r, h, h' =>
        simp at h h'
        have e1 := ih r (by omega) k' (by omega)
        have e2 : ∀ a, condLenF k (r.drop a) = condLenF k' (r.drop a) := fun a => ih (r.drop a) (by simp; omega) k' (by simp; omega)
        simp only [condLenF, e1, e2]
theorem condLen_nil : condLen [] = none := rfl
theorem condLen_cons (x : List UInt8) (r : List (List UInt8)) : condLen (x :: r) = match cword x with
    | .inr (some (false, false)) => some 1
    | .inl _ => some 3
    | .inr (some (false, true)) => some 5
    | .inr (some (true, false)) => match condLen r with
      | none => none
      | some n => some (n + 1)
    | .inr (some (true, true)) => match condLen r with
      | none => none
      | some a => match condLen (r.drop a) with
        | none => none
        | some b => some (a + b + 1)
    | .inr none => none := by
  have e2 : ∀ a, condLenF (r.length + 1) (r.drop a) = condLen (r.drop a) := fun a => condLenF_le _ _ (by simp; omega) _ (by simp)
  show condLenF (r.length + 1 + 1) (x :: r) = _
  simp only [condLenF, e2]
  rfl

theorem condLen_le : ∀ (k : Nat) (l : List (List UInt8)), l.length ≤ k → ∀ n, condLen l = some n → n ≤ 5 * l.length ∧ 1 ≤ n := by
  intro k
  induction k with
  | zero =>
    intro l hl n h
    match l, hl with
    | [], _ => simp [condLen_nil] at h
  | succ k ih =>
    intro l hl n h
    match l, hl with
    | [], _ => simp [condLen_nil] at h
    | x :: r, hl =>
      simp at hl
      rw [condLen_cons] at h
      split at h
      · simp at h; simp; omega
      · simp at h; simp; omega
      · simp at h; simp; omega
      · split at h
        · cases h
        · rename_i m hm
          have := ih r (by omega) m hm
          simp at h; simp; omega
      · split at h
        · cases h
        · rename_i a ha
          have h1 := ih r (by omega) a ha
          split at h
          · cases h
          · rename_i b hb
            have h2 := ih (r.drop a) (by simp; omega) b hb
            simp at h h2
            simp
            have : a < r.length ∨ r.length ≤ a := by omega
            rcases this with h3 | h3
            · omega
            · rw [List.drop_of_length_le h3] at hb
              simp [condLen_nil] at hb
      · cases h
end Go.Proofs.YtnpjldffciociaaGreatDoor
