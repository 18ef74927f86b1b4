import Derived.Test.YtiekijfmafklfaaGreatDoorProgLaw7
namespace Go.Proofs.YtiekijfmafklfaaGreatDoor
open Go.RowKit

def keyM (m : MRow) : Nat × Nat := (m.t, m.c)
/-- A rule, given the masks ahead of it. -/
def ruleK (ts : List (List UInt8 × List Bool)) (ks : List (Nat × Nat)) (ws : List (List UInt8)) : Option (Option (Nat × Nat)) :=
  if wordAt ws 0 = wAllow then match allowP ts ws with
    | true => some none
    | false => none
  else if wordAt ws 0 = wMask then match maskP ts ws with
    | none => none
    | some k => if ks.contains k then none else some (some k)
  else none
/-- Rules, one after the other. -/
def lawGo (ts : List (List UInt8 × List Bool)) : List (Nat × Nat) → List (List UInt8) → Bool
  | _, [] => true
  | ks, p :: r => match ruleK ts ks (spl 32 p) with
    | none => false
    | some none => lawGo ts ks r
    | some (some k) => lawGo ts (ks ++ [k]) r
/-- What ReadLaw takes. -/
def lawP (ts : List (List UInt8 × List Bool)) (l : List UInt8) : Bool := l.isEmpty || (decide (l.count 32 + l.count 59 < 60) && lawGo ts [] (spl 59 l))
theorem hasMask_key (ms : List MRow) (t c : Nat) : hasMask ms t c = (ms.map keyM).contains (t, c) := by
  induction ms with
  | nil => rfl
  | cons m r ih =>
    have e : hasMask (m :: r) t c = ((decide (m.t = t) && decide (m.c = c)) || hasMask r t c) := by simp [hasMask]
    rw [e, ih]
    simp only [List.map_cons, List.contains_cons, keyM]
    congr 1
    rw [Bool.eq_iff_iff]
    simp only [Bool.and_eq_true, decide_eq_true_eq, beq_iff_eq, Prod.mk.injEq]
    exact ⟨fun h => ⟨h.1.symm, h.2.symm⟩, fun h => ⟨h.1.symm, h.2.symm⟩⟩
theorem ruleP_key (ts : List (List UInt8 × List Bool)) (ms : List MRow) (ws : List (List UInt8)) : ruleP ts ms ws = ruleK ts (ms.map keyM) ws := by
  unfold ruleP ruleK
  split
  · rfl
  · split
    · cases maskP ts ws with
      | none => rfl
      | some k => obtain ⟨t, c⟩ := k; simp only [hasMask_key]
    · rfl
theorem reads_new (w : World) (xs : List Value) (t : TypeId) (cap : Nat) : Reads (w.alloc (.cells xs.toArray t)) (.slice (some ⟨w.heap.size, 0, none⟩) xs.length cap) xs :=
  ⟨_, _, rfl, fun i u h => ⟨w.heap.size, 0, rfl, by simp, by rw [World.cell?_alloc_at _ _ _ _ rfl]; simpa using h⟩⟩
theorem LawAt.new {w : World} {lb : Nat} (h : w.heap[lb]? = some (.cells #[.slice none 0 0, .slice none 0 0] 95 (0, 0))) : LawAt w lb (.slice none 0 0) (.slice none 0 0) 0 [] [] :=
  ⟨h, ⟨rfl, .inl ⟨rfl, rfl⟩⟩, ⟨rfl, .inl ⟨rfl, rfl⟩⟩⟩
/-- The tables of a schema. -/
structure TabsOk (ts : List (List UInt8 × List Bool)) : Prop where
  few : ts.length ≤ 1048577
  narrow : ∀ t, (typesOf ts t).length ≤ 9
  named : ∀ t ∈ ts, t.1 ≠ []
/-- One round's call: the reader is new. -/
theorem rule_new (wr : World) (vs : Value) (ts : List (List UInt8 × List Bool)) (ws : List (List UInt8)) (lb na : Nat) (av mv : Value) (xs : List Value) (ms : List MRow) (hok : TabsOk ts) (hg : Glob wr) (hts : ReadsTabs tcode wr vs ts) (hL : LawAt wr lb av mv na xs ms) (hna : na ≤ 1000) (hnm : ms.length ≤ 1000) (hwl : ws.length ≤ 1048577) (hws : ∀ l ∈ ws, l.length ≤ 1048577) :
    Calls Tryz.prog 37 #[.pointer (some ⟨wr.heap.size + 1, 0, none⟩), .pointer (some ⟨lb, 0, none⟩)] ((wr.alloc (.cells (ws.map fun l => Value.string (bs l)).toArray 9)).alloc (.cells #[vs, .slice (some ⟨wr.heap.size, 0, none⟩) ws.length ws.length, .int .i64 0, .int .i64 4, .bool true] 80))
      fun e w' => (match ruleK ts (ms.map keyM) ws with
        | none => ∃ te pe, e = .returned (.iface te pe) ∧ Err w' 4 (.iface te pe)
        | some none => e = .returned .nilIface ∧ ∃ av mv xs, LawAt w' lb av mv (na + 1) xs ms
        | some (some (t, c)) => e = .returned .nilIface ∧ ∃ av mv xs m, m.t = t ∧ m.c = c ∧ LawAt w' lb av mv na xs (ms ++ [m])) ∧ Kp lb wr w' := by
  have hlb : lb < wr.heap.size := (Array.getElem?_eq_some_iff.1 hL.blk).1
  have hb : Below wr.heap.size wr (wr.alloc (.cells (ws.map fun l => Value.string (bs l)).toArray 9)) := (Below.refl _ _).alloc (Nat.le_refl _) _
  have hrd := reads_new wr (ws.map fun l => Value.string (bs l)) 9 ws.length
  rw [List.length_map] at hrd
  have hsz : (wr.alloc (.cells (ws.map fun l => Value.string (bs l)).toArray 9)).heap.size = wr.heap.size + 1 := by simp
  generalize wr.alloc (.cells (ws.map fun l => Value.string (bs l)).toArray 9) = w0 at *
  have hX : RX w0 (w0.alloc (.cells #[vs, .slice (some ⟨wr.heap.size, 0, none⟩) ws.length ws.length, .int .i64 0, .int .i64 4, .bool true] 80)) vs (.slice (some ⟨wr.heap.size, 0, none⟩) ws.length ws.length) ws 0 4 true :=
    ⟨⟨by simp, by simp, by simp, by simp, by simp, by simp, by simp⟩, (Below.refl _ _).alloc (Nat.le_refl _) _, hrd, hwl, hws⟩
  have H : Hand w0 vs ts lb av mv na xs ms := ⟨hg.kept hb, hts.below hb, hok.few, hok.narrow, hok.named, hL.below hb, hna, hnm⟩
  have h := xrule w0 _ vs _ ts ws 4 lb na av mv xs ms H hX
  rw [hsz, ruleP_key] at h
  refine h.mono ?_
  rintro e w' ⟨h1, h2⟩
  exact ⟨h1, (Kp.of_below hb (Nat.le_of_lt hlb)).trans h2⟩

theorem Err.new' (w : World) (n : Int) (s : ByteArray) (m : Nat) (hm : m = w.heap.size) : Err (w.alloc (.cells #[.int .i64 n, .string s] 77)) n (.iface 73 (.pointer (some ⟨m, 0, none⟩))) := by
  subst hm; exact Err.new w n s
/-- What ReadLaw answers. -/
def LawAns (w : World) (ok : Bool) (e : Ending) : Prop :=
  ∃ v ev, e = .returned (.tuple #[v, ev]) ∧ match ok with
    | true => ev = .nilIface
    | false => Err w 4 ev

set_option maxRecDepth 10000 in
set_option maxHeartbeats 1000000 in
theorem rl_empty (a : Option Addr) (n cap : Nat) (w : World) :
    Calls Tryz.prog 19 #[.slice a n cap, .string ByteArray.empty] w fun e w' => LawAns w' true e ∧ Below w.heap.size w w' := by
  go_enter Tryz.func19, Tryz.ntmps19
  go_wp2
  go_ret2
  exact ⟨⟨_, _, rfl, rfl⟩, by go_grown⟩
set_option maxRecDepth 10000 in
set_option maxHeartbeats 1000000 in
theorem rl_many (a : Option Addr) (n cap : Nat) (s : ByteArray) (w : World) (k1 k2 : Nat) (he : s.toList.isEmpty = false) (h60 : 60 ≤ k1 + k2) (hk1 : k1 ≤ 4194304) (hk2 : k2 ≤ 4194304)
    (hc1 : ∀ w, Calls Tryz.prog 21 #[.string s, .string ⟨#[32]⟩] w fun e w' => e = .returned (.int .i64 k1) ∧ w' = w)
    (hc2 : ∀ w, Calls Tryz.prog 21 #[.string s, .string ⟨#[59]⟩] w fun e w' => e = .returned (.int .i64 k2) ∧ w' = w) :
    Calls Tryz.prog 19 #[.slice a n cap, .string s] w fun e w' => LawAns w' false e ∧ Below w.heap.size w w' := by
  go_enter Tryz.func19, Tryz.ntmps19
  go_wp2_with (first
    | (go_at_call 21; with_reducible refine (hc1 _).mono ?_; rintro e w' ⟨rfl, hw⟩; obtain rfl := hw.symm)
    | (go_at_call 21; with_reducible refine (hc2 _).mono ?_; rintro e w' ⟨rfl, hw⟩; obtain rfl := hw.symm))
  go_ret2
  exact ⟨⟨_, _, rfl, Err.new' _ _ _ _ (by simp)⟩, by go_grown⟩
end Go.Proofs.YtiekijfmafklfaaGreatDoor
