import Derived.Test.YtnpjldffciociaaGreatDoorB26
import Derived.Deep.RegionWith
namespace Go.Proofs.YtnpjldffciociaaGreatDoor
open Go.RowKit

set_option maxRecDepth 10000 in
set_option maxHeartbeats 1000000 in
theorem plast_cond (rb : Nat) (ta : Option Addr) (tn tc : Nat) (w : World) (R : Value → World → Prop)
    (h1 : Calls Tryz.prog 243 #[.pointer (some ⟨rb, 0, none⟩)] w fun e w' => ∃ te pe, e = .returned (.tuple #[.pointer none, .iface te pe]) ∧ R (.iface te pe) w') :
    Calls Tryz.prog 209 #[.pointer (some ⟨rb, 0, none⟩), .slice ta tn tc] w fun e w' => ∃ te pe, e = .returned (.tuple #[.pointer none, .iface te pe]) ∧ R (.iface te pe) w' := by
  go_enter Tryz.func209, Tryz.ntmps209
  go_wp2_with (go_at_call 243; refine h1.mono ?_; rintro e w1 ⟨te, pe, rfl, hR⟩)
  go_ret2
  exact ⟨te, pe, rfl, hR⟩
set_option maxRecDepth 10000 in
set_option maxHeartbeats 1000000 in
theorem plast_fit (rb : Nat) (ta : Option Addr) (tn tc : Nat) (w : World) (P : Nat → World → Prop) (R : Value → World → Prop)
    (h1 : Calls Tryz.prog 243 #[.pointer (some ⟨rb, 0, none⟩)] w fun e w' => ∃ b, e = .returned (.tuple #[.pointer (some ⟨b, 0, none⟩), .nilIface]) ∧ P b w')
    (h2 : ∀ b w1, P b w1 → Calls Tryz.prog 244 #[.pointer (some ⟨rb, 0, none⟩), .pointer (some ⟨b, 0, none⟩), .slice ta tn tc] w1 fun e w' => ∃ te pe, e = .returned (.iface te pe) ∧ R (.iface te pe) w') :
    Calls Tryz.prog 209 #[.pointer (some ⟨rb, 0, none⟩), .slice ta tn tc] w fun e w' => ∃ te pe, e = .returned (.tuple #[.pointer none, .iface te pe]) ∧ R (.iface te pe) w' := by
  go_enter Tryz.func209, Tryz.ntmps209
  go_wp2_with (first
    | (go_at_call 243; refine h1.mono ?_; rintro e w1 ⟨b, rfl, hP⟩)
    | (go_at_call 244; refine (h2 _ _ hP).mono ?_; rintro e w2 ⟨te, pe, rfl, hR⟩))
  go_ret2
  exact ⟨te, pe, rfl, hR⟩
set_option maxRecDepth 10000 in
set_option maxHeartbeats 1000000 in
theorem plast_end (rb : Nat) (ta : Option Addr) (tn tc : Nat) (w : World) (P : Nat → World → Prop) (P2 : Nat → World → Prop) (R : Value → World → Prop)
    (h1 : Calls Tryz.prog 243 #[.pointer (some ⟨rb, 0, none⟩)] w fun e w' => ∃ b, e = .returned (.tuple #[.pointer (some ⟨b, 0, none⟩), .nilIface]) ∧ P b w')
    (h2 : ∀ b w1, P b w1 → Calls Tryz.prog 244 #[.pointer (some ⟨rb, 0, none⟩), .pointer (some ⟨b, 0, none⟩), .slice ta tn tc] w1 fun e w' => e = .returned .nilIface ∧ P2 b w')
    (h3 : ∀ b w1, P2 b w1 → Calls Tryz.prog 100 #[.pointer (some ⟨rb, 0, none⟩)] w1 fun e w' => ∃ v, e = .returned v ∧ R v w') :
    Calls Tryz.prog 209 #[.pointer (some ⟨rb, 0, none⟩), .slice ta tn tc] w fun e w' => ∃ b v, e = .returned (.tuple #[.pointer (some ⟨b, 0, none⟩), v]) ∧ R v w' := by
  go_enter Tryz.func209, Tryz.ntmps209
  go_wp2_with (first
    | (go_at_call 243; refine h1.mono ?_; rintro e w1 ⟨b, rfl, hP⟩)
    | (go_at_call 244; refine (h2 _ _ hP).mono ?_; rintro e w2 ⟨rfl, hP2⟩)
    | (go_at_call 100; refine (h3 _ _ hP2).mono ?_; rintro e w3 ⟨v, rfl, hR⟩))
  go_ret2
  exact ⟨b, v, rfl, hR⟩

def LastAns (w0 w : World) (ok : Bool) (errno : Int) (e : Ending) (w' : World) : Prop :=
  (if ok then ∃ b : Nat, e = .returned (.tuple #[.pointer (some ⟨b, 0, none⟩), .nilIface]) else ∃ p te pe, e = .returned (.tuple #[.pointer p, .iface te pe]) ∧ Err w' errno (.iface te pe)) ∧ Stp w0.heap.size w w'
/-- The condition with which a rule ends. -/
theorem xlast (w0 w : World) (vs vw tv : Value) (ts : List (List UInt8 × List Bool)) (ty : List Bool) (ws : List (List UInt8)) (taken : Nat) (errno : Int) (rule : Bool) (hg : Glob w0) (hs : ReadsTabs tcode w0 vs ts) (hl : ts.length ≤ 1048577) (hlc : ∀ t, (ts.getD t ([], [])).2.length ≤ 9)
    (hrd : Reads w0 tv (ty.map tcode)) (hty : ty.length ≤ 9) (hX : RX w0 w vs vw ws taken errno rule) (htk : taken ≤ ws.length) :
    Calls Tryz.prog 209 #[.pointer (some ⟨w0.heap.size, 0, none⟩), tv] w fun e w' => LastAns w0 w (condAt ts ty rule ws taken (ws.length - taken)) errno e w' := by
  have hcond := xcond w0 vs vw ts ws errno rule hg hs hl (ws.length + 1) w taken (by omega) htk hX
  rw [condAt_parse ts ty rule ws hty hlc taken (ws.length + 1) (by omega) htk]
  obtain ⟨ta, tc, htv, _⟩ := id hrd
  cases hp : parseC ts rule ws (ws.length + 1) taken with
  | none =>
    rw [hp] at hcond
    rw [htv]
    refine (plast_cond _ ta _ tc w (fun v w' => Err w' errno v ∧ Stp w0.heap.size w w') (hcond.mono ?_)).mono ?_
    · rintro e w' ⟨⟨te, pe, rfl, hE⟩, hS⟩; exact ⟨te, pe, rfl, hE, hS⟩
    · rintro e w' ⟨te, pe, rfl, hE, hS⟩
      exact ⟨by simpa using ⟨none, te, pe, ⟨rfl, rfl, rfl⟩, hE⟩, hS⟩
  | some p =>
    obtain ⟨c, j⟩ := p
    rw [hp] at hcond
    have hok := parse_ok ts rule ws _ _ _ _ hp
    obtain ⟨pl1, pl2, _⟩ := parse_len ts rule ws _ _ _ _ hp
    have h1 : Calls Tryz.prog 243 #[.pointer (some ⟨w0.heap.size, 0, none⟩)] w fun e w' => ∃ b, e = .returned (.tuple #[.pointer (some ⟨b, 0, none⟩), .nilIface]) ∧
        (CndAt w'.heap.size w' c w.heap.size b ∧ RX w0 w' vs vw ws j errno rule ∧ Stp w0.heap.size w w') := by
      refine hcond.mono ?_
      rintro e w' ⟨⟨b, rfl, hC, hX'⟩, hS⟩
      exact ⟨b, rfl, hC, hX', hS⟩
    have h2 := fun (b : Nat) w1 (hP : CndAt w1.heap.size w1 c w.heap.size b ∧ RX w0 w1 vs vw ws j errno rule ∧ Stp w0.heap.size w w1) => xfit w0 vs vw tv ts ty ws j errno rule hs hl (fun q => Nat.le_trans (hlc q) (by decide)) hrd (Nat.le_trans hty (by decide)) c w1 _ _ b hP.2.1 (Nat.le_refl _) hP.1 hok
    rw [htv] at h2 ⊢
    simp only
    cases hf : fitC ts ty c with
    | false =>
      rw [hf] at h2
      refine (plast_fit _ ta _ tc w _ (fun v w' => Err w' errno v ∧ Stp w0.heap.size w w') h1 fun b w1 hP => (h2 b w1 hP).mono ?_).mono ?_
      · rintro e w' ⟨hA, hb⟩
        obtain ⟨te, pe, rfl, hE⟩ : ∃ te pe, e = .returned (.iface te pe) ∧ Err w' errno (.iface te pe) := by simpa [FitAns] using hA
        exact ⟨te, pe, rfl, hE, hP.2.2.trans (Stp.of_below hb)⟩
      · rintro e w' ⟨te, pe, rfl, hE, hS⟩
        exact ⟨by simpa using ⟨none, te, pe, ⟨rfl, rfl, rfl⟩, hE⟩, hS⟩
    | true =>
      rw [hf] at h2
      refine (plast_end _ ta _ tc w _ (fun _ w' => RX w0 w' vs vw ws j errno rule ∧ Stp w0.heap.size w w') (fun v w' => (if ws.length ≤ j then v = .nilIface else ∃ te pe, v = .iface te pe ∧ Err w' errno (.iface te pe)) ∧ Stp w0.heap.size w w') h1 (fun b w1 hP => (h2 b w1 hP).mono fun e w' ⟨hA, hb⟩ => ⟨by simpa [FitAns] using hA, hP.2.1.below hb, hP.2.2.trans (Stp.of_below hb)⟩) fun b w1 hP => (xend w0 w1 vs vw ws j errno rule hP.1).mono ?_).mono ?_
      · rintro e w' ⟨hA, hb⟩
        by_cases hj : ws.length ≤ j
        · rw [if_pos hj] at hA; subst hA
          exact ⟨_, rfl, by rw [if_pos hj], hP.2.trans (Stp.of_below hb)⟩
        · rw [if_neg hj] at hA
          obtain ⟨te, pe, rfl, hE⟩ := hA
          exact ⟨_, rfl, by rw [if_neg hj]; exact ⟨te, pe, rfl, hE⟩, hP.2.trans (Stp.of_below hb)⟩
      · rintro e w' ⟨b, v, rfl, hA, hS⟩
        refine ⟨?_, hS⟩
        by_cases hj : ws.length ≤ j
        · rw [if_pos hj] at hA; subst hA
          have : j = ws.length := by omega
          simp [this]
        · rw [if_neg hj] at hA
          obtain ⟨te, pe, rfl, hE⟩ := hA
          have : ¬ j = ws.length := by omega
          simp only [this, decide_false, Bool.and_false, Bool.false_eq_true, if_false]
          exact ⟨_, te, pe, rfl, hE⟩
end Go.Proofs.YtnpjldffciociaaGreatDoor
namespace Go.Proofs.YtnpjldffciociaaGreatDoor
open Go.RowKit

/-- A mask's five cells. -/
structure MRow where
  c : Nat
  vt : Int
  vn : Int
  vs : ByteArray
  cp : Nat
def MRow.cells (m : MRow) : List Value := [.int .i64 m.c, .int .i64 m.vt, .int .i64 m.vn, .string m.vs, .pointer (some ⟨m.cp, 0, none⟩)]
def flatM (ms : List MRow) : List Value := ms.flatMap MRow.cells
theorem flatM_length (ms : List MRow) : (flatM ms).length = ms.length * 5 := by
  induction ms with
  | nil => rfl
  | cons m ms ih =>
    have : flatM (m :: ms) = m.cells ++ flatM ms := by simp [flatM]
    rw [this, List.length_append, ih]
    simp [MRow.cells]; omega
theorem flatM_at (ms : List MRow) : ∀ (i : Nat) (h : i < ms.length) (j : Nat), j < 5 → (flatM ms)[i * 5 + j]? = (ms[i].cells)[j]? := by
  induction ms with
  | nil => intro i h; simp at h
  | cons m ms ih =>
    intro i h j hj
    have he : flatM (m :: ms) = m.cells ++ flatM ms := by simp [flatM]
    have hl : m.cells.length = 5 := rfl
    rw [he]
    cases i with
    | zero => rw [List.getElem?_append_left (by rw [hl]; omega)]; simp
    | succ i =>
      rw [List.getElem?_append_right (by rw [hl]; omega), hl]
      have := ih i (by simpa using h) j hj
      rw [show (i + 1) * 5 + j - 5 = i * 5 + j by omega]
      simpa using this
def hasMask (ms : List MRow) (c : Nat) : Bool := ms.any fun m => decide (m.c = c)
theorem hasMask_take {ms : List MRow} {k c : Nat} (hk : k < ms.length) (h : hasMask (ms.take k) c = false) (hn : ¬ ms[k].c = c) : hasMask (ms.take (k + 1)) c = false := by
  unfold hasMask at *
  rw [List.take_succ_eq_append_getElem hk, List.any_append, h]
  simp
  exact hn
theorem hasMask_hit {ms : List MRow} {k c : Nat} (hk : k < ms.length) (hn : ms[k].c = c) : hasMask ms c = true := by
  unfold hasMask
  rw [List.any_eq_true]
  exact ⟨ms[k], List.getElem_mem hk, by simp [hn]⟩

set_option maxRecDepth 10000 in
set_option maxHeartbeats 2000000 in
theorem pmasked1 (w : World) (bx c d : Nat) (a b : Int) (s : ByteArray) (p : Option Addr) (h : w.cell? ⟨bx, 0, none⟩ = some (.int .i64 c)) (hbx : bx < w.heap.size) :
    Calls Tryz.prog 254 #[.agg #[.int .i64 d, .int .i64 a, .int .i64 b, .string s, .pointer p], .pointer (some ⟨bx, 0, none⟩)] w fun e w' => e = .returned (.bool (decide (d = c))) ∧ Below w.heap.size w w' := by
  by_cases hdc : d = c
  · subst hdc
    go_enter Tryz.func254, Tryz.ntmps254
    go_wp2
    go_ret
    exact ⟨ret_bool (by simp), (Below.refl _ _).alloc (Nat.le_refl _) _⟩
  · have hne : ¬ (d : Int) = (c : Int) := by omega
    go_enter Tryz.func254, Tryz.ntmps254
    go_wp2
    go_ret
    exact ⟨ret_bool (by simp [hdc, hne]), (Below.refl _ _).alloc (Nat.le_refl _) _⟩
set_option maxRecDepth 10000 in
set_option maxHeartbeats 2000000 in
theorem pIdxMask (w : World) (base bx c : Nat) (mv : Value) (ms : List MRow) (hrow : w.ownsRow base 340 5 mv ms.length (flatM ms)) (hl : ms.length ≤ 1000) (h : w.cell? ⟨bx, 0, none⟩ = some (.int .i64 c)) (hbx : bx < w.heap.size) :
    Calls Tryz.prog 294 #[mv, .func (.func 254) #[] #[.pointer (some ⟨bx, 0, none⟩)]] w fun e w' => (∃ r : Int, e = .returned (.int .i64 r) ∧ decide (0 ≤ r) = hasMask ms c) ∧ Below w.heap.size w w' := by
  obtain ⟨va, vc, rfl, hva⟩ := row_slice hrow
  have HM := hidR hrow
  have HV := hidR hva
  clear hrow hva
  go_enter Tryz.func294, Tryz.ntmps294
  go_wp2
  go_loopw [8] (fun i wr => ∃ k : Nat, k ≤ ms.length ∧ i = .int .i64 k ∧ Hid (Below w.heap.size w wr) ∧ Hid (hasMask (ms.take k) c = false)) (fun i _ => ms.length - (intOf i).toNat)
  case atStart => exact ⟨0, by omega, rfl, hidR (Below.refl _ _), hidR rfl⟩
  case round =>
    obtain ⟨k, hk, rfl, HB, HN⟩ := hrel
    have hws := HB.out.size
    by_cases hlt : k < ms.length
    · obtain ⟨g, rfl⟩ := HV.out (by omega)
      have hgl := (HM.out.lt g rfl).2
      have hcell : ∀ j, j < 5 → wr.cell? ⟨g, k * 5 + j, none⟩ = (ms[k].cells)[j]? := by
        intro j hj
        have hf := flatM_at ms k hlt j hj
        have h6 : j < ms[k].cells.length := hj
        rw [List.getElem?_eq_getElem h6] at hf ⊢
        have := HM.out.cells (g := g) rfl (k * 5 + j) _ hf
        rw [HB.out.cell (p := ⟨g, k * 5 + j, none⟩) hgl, ← this]
        congr 1
        simp [Addr.add]
      have f0 : wr.cell? ⟨g, k * 5, none⟩ = some (.int .i64 ms[k].c) := hcell 0 (by omega)
      have f1 : wr.cell? ⟨g, k * 5 + 1, none⟩ = some (.int .i64 ms[k].vt) := hcell 1 (by omega)
      have f2 : wr.cell? ⟨g, k * 5 + 2, none⟩ = some (.int .i64 ms[k].vn) := hcell 2 (by omega)
      have f3 : wr.cell? ⟨g, k * 5 + 3, none⟩ = some (.string ms[k].vs) := hcell 3 (by omega)
      have f4 : wr.cell? ⟨g, k * 5 + 4, none⟩ = some (.pointer (some ⟨ms[k].cp, 0, none⟩)) := hcell 4 (by omega)
      have hgr : g < wr.heap.size := by omega
      clear hcell
      have hcl := pmasked1 wr bx c ms[k].c ms[k].vt ms[k].vn ms[k].vs (some ⟨ms[k].cp, 0, none⟩) ((HB.out.cell (p := ⟨bx, 0, none⟩) hbx).trans h) (by omega)
      by_cases h1 : ms[k].c = c
      · have HH := hidR (hasMask_hit hlt h1)
        rw [h1] at f0 hcl
        rw [decide_eq_true (rfl : c = c)] at hcl
        clear h1
        go_wp2_with (go_at_call 254; refine hcl.mono ?_; rintro e w2 ⟨rfl, hb2⟩)
        go_ret
        exact ⟨⟨_, rfl, by rw [HH.out]; simp⟩, HB.out.trans (hb2.mono hws)⟩
      · have HX := hidR (hasMask_take hlt HN.out h1)
        rw [decide_eq_false h1] at hcl
        go_wp2_with (go_at_call 254; refine hcl.mono ?_; rintro e w2 ⟨rfl, hb2⟩)
        exact ⟨⟨k + 1, by omega, by go_num, hidR (HB.out.trans (hb2.mono hws)), HX⟩, by simp [intOf]; omega⟩
    · have hkk : k = ms.length := by omega
      subst hkk
      go_wp2
      go_ret
      exact ⟨⟨_, rfl, by have := HN.out; rw [List.take_length] at this; rw [this]; rfl⟩, HB.out⟩
set_option maxRecDepth 10000 in
set_option maxHeartbeats 2000000 in
theorem pmasked (w : World) (base lb o c : Nat) (mv : Value) (ms : List MRow) (hc : w.cell? ⟨lb, o + 2, none⟩ = some mv) (hlb : lb < w.heap.size) (hrow : w.ownsRow base 340 5 mv ms.length (flatM ms)) (hl : ms.length ≤ 1000) :
    Calls Tryz.prog 213 #[.pointer (some ⟨lb, o, none⟩), .int .i64 c] w fun e w' => e = .returned (.bool (hasMask ms c)) ∧ Below w.heap.size w w' := by
  obtain ⟨va, vc, rfl, hva⟩ := row_slice hrow
  have hmf : ∀ (fn : Fn) (first cap : Array Value) (w : World), (Instr.makeFunc fn first cap).run Tryz.prog w = .ok (.func fn first cap) w := fun _ _ _ _ => rfl
  have hin := pIdxMask (w.alloc (.cells #[.int .i64 c] 3)) base w.heap.size c _ ms (hrow.alloc _) hl (by simp) (by simp)
  have hco : Calls Tryz.prog 253 #[.slice va ms.length vc, .func (.func 254) #[] #[.pointer (some ⟨w.heap.size, 0, none⟩)]] (w.alloc (.cells #[.int .i64 c] 3)) fun e w' => e = .returned (.bool (hasMask ms c)) ∧ Below (w.heap.size + 1) (w.alloc (.cells #[.int .i64 c] 3)) w' := by
    go_enter Tryz.func253, Tryz.ntmps253
    go_wp2_with (go_at_call 294; refine hin.mono ?_; rintro e w2 ⟨⟨r, rfl, hr⟩, hb2⟩)
    go_ret
    exact ⟨ret_bool (by first | exact hr | rfl), by simpa using hb2⟩
  go_enter Tryz.func213, Tryz.ntmps213
  go_wp2_with (go_at_call 253; refine hco.mono ?_; rintro e w2 ⟨rfl, hb2⟩)
  go_ret
  exact ⟨rfl, ((Below.refl _ _).alloc (Nat.le_refl _) _).trans (hb2.mono (by omega))⟩
end Go.Proofs.YtnpjldffciociaaGreatDoor
namespace Go.Proofs.YtnpjldffciociaaGreatDoor
open Go.RowKit

/-- The rules of one table, as far as they were read. -/
structure Rl where
  wd : ByteArray
  av : Value
  mv : Value
  na : Nat
  xs : List Value
  ms : List MRow
/-- One table's rules turned. -/
def updR (rs : Nat → Rl) (t : Nat) (r : Rl) : Nat → Rl := fun i => if i = t then r else rs i
theorem updR_at (rs : Nat → Rl) (t : Nat) (r : Rl) : updR rs t r t = r := by simp [updR]
theorem updR_ne (rs : Nat → Rl) (t : Nat) (r : Rl) {i : Nat} (h : i ≠ t) : updR rs t r i = rs i := by simp [updR, h]
/-- Two rows that lie apart. -/
def Apart (u v : Value) : Prop := u.ownBlock = none ∨ u.ownBlock ≠ v.ownBlock
/-- The law's own block. -/
def LBlk (w : World) (lb n : Nat) (rs : Nat → Rl) : Prop := ∃ cs, w.heap[lb]? = some (.cells cs 258 (0, 0)) ∧ ∀ i, i < n → cs[i * 3]? = some (.string (rs i).wd) ∧ cs[i * 3 + 1]? = some (rs i).av ∧ cs[i * 3 + 2]? = some (rs i).mv
/-- The law, as far as it was read. -/
structure LawAt (w : World) (lb n : Nat) (rs : Nat → Rl) : Prop where
  blk : LBlk w lb n rs
  arow : ∀ i, i < n → w.ownsRow (lb + 1) 109 1 (rs i).av (rs i).na (rs i).xs
  mrow : ∀ i, i < n → w.ownsRow (lb + 1) 340 5 (rs i).mv (rs i).ms.length (flatM (rs i).ms)
  ad : ∀ i j, i < n → j < n → i ≠ j → Apart (rs i).av (rs j).av
  md : ∀ i j, i < n → j < n → i ≠ j → Apart (rs i).mv (rs j).mv

theorem LawAt.lt {w : World} {lb n : Nat} {rs : Nat → Rl} (h : LawAt w lb n rs) : lb < w.heap.size := by
  obtain ⟨cs, hb, _⟩ := h.blk
  exact (Array.getElem?_eq_some_iff.1 hb).1
theorem LBlk.frozen {w : World} {lb n : Nat} {rs : Nat → Rl} (h : LBlk w lb n rs) (k : Nat) : w.frozen? ⟨lb, k, none⟩ = false := by
  obtain ⟨cs, hb, _⟩ := h
  exact Lib.frozen_of_heap hb k
theorem LBlk.cells {w : World} {lb n : Nat} {rs : Nat → Rl} (h : LBlk w lb n rs) {t : Nat} (ht : t < n) : w.cell? ⟨lb, t * 3, none⟩ = some (.string (rs t).wd) ∧ w.cell? ⟨lb, t * 3 + 1, none⟩ = some (rs t).av ∧ w.cell? ⟨lb, t * 3 + 2, none⟩ = some (rs t).mv := by
  obtain ⟨cs, hb, hc⟩ := h
  obtain ⟨c0, c1, c2⟩ := hc t ht
  refine ⟨?_, ?_, ?_⟩
  · rw [Lib.cell_of_heap hb]; exact c0
  · rw [Lib.cell_of_heap hb]; exact c1
  · rw [Lib.cell_of_heap hb]; exact c2
theorem LBlk.kept {w w' : World} {lb n : Nat} {rs : Nat → Rl} (h : LBlk w lb n rs) (hb : w'.heap[lb]? = w.heap[lb]?) : LBlk w' lb n rs := by
  obtain ⟨cs, h1, h2⟩ := h
  exact ⟨cs, hb.trans h1, h2⟩
/-- One cell of the law's block turned. -/
theorem blk_set {w : World} {lb : Nat} {cs : Array Value} {ty : TypeId} (h : w.heap[lb]? = some (.cells cs ty (0, 0))) (k : Nat) (hk : k < cs.size) (v : Value) :
    ∃ cs', (w.setCell ⟨lb, k, none⟩ v).heap[lb]? = some (.cells cs' ty (0, 0)) ∧ cs'[k]? = some v ∧ ∀ i, i ≠ k → cs'[i]? = cs[i]? := by
  refine ⟨cs.setIfInBounds k v, ?_, ?_, ?_⟩
  · simp [World.setCell, Array.getElem?_modify, h]
  · simp [hk]
  · intro i hi
    rw [Array.getElem?_setIfInBounds]
    rw [if_neg (Ne.symm hi)]
theorem LBlk.set {w : World} {lb n t : Nat} {rs : Nat → Rl} (h : LBlk w lb n rs) (ht : t < n) (r : Rl) (k : Nat) (v : Value)
    (hk : (k = t * 3 ∧ v = .string r.wd ∧ r.av = (rs t).av ∧ r.mv = (rs t).mv) ∨ (k = t * 3 + 1 ∧ v = r.av ∧ r.wd = (rs t).wd ∧ r.mv = (rs t).mv) ∨ (k = t * 3 + 2 ∧ v = r.mv ∧ r.wd = (rs t).wd ∧ r.av = (rs t).av)) :
    LBlk (w.setCell ⟨lb, k, none⟩ v) lb n (updR rs t r) := by
  obtain ⟨cs, hb, hc⟩ := h
  obtain ⟨c0, c1, c2⟩ := hc t ht
  have l2 : t * 3 + 2 < cs.size := (Array.getElem?_eq_some_iff.1 c2).1
  obtain ⟨cs', hb', hk', hne⟩ := blk_set hb k (by rcases hk with h | h | h <;> omega) v
  refine ⟨cs', hb', fun i hi => ?_⟩
  by_cases hit : i = t
  · subst hit
    rw [updR_at]
    rcases hk with ⟨rfl, rfl, e1, e2⟩ | ⟨rfl, rfl, e1, e2⟩ | ⟨rfl, rfl, e1, e2⟩
    · exact ⟨hk', by rw [hne _ (by omega), e1]; exact c1, by rw [hne _ (by omega), e2]; exact c2⟩
    · exact ⟨by rw [hne _ (by omega), e1]; exact c0, hk', by rw [hne _ (by omega), e2]; exact c2⟩
    · exact ⟨by rw [hne _ (by omega), e1]; exact c0, by rw [hne _ (by omega), e2]; exact c1, hk'⟩
  · rw [updR_ne _ _ _ hit, hne _ (by omega), hne _ (by omega), hne _ (by omega)]
    exact hc i hi
theorem LawAt.below {w w' : World} {lb n : Nat} {rs : Nat → Rl} (h : LawAt w lb n rs) (hb : Below w.heap.size w w') : LawAt w' lb n rs := by
  have hk : ∀ {e : TypeId} {size : Nat} {v : Value} {m : Nat} {ys : List Value}, w.ownsRow (lb + 1) e size v m ys → w'.ownsRow (lb + 1) e size v m ys := fun h =>
    h.kept (row := none) ⟨hb.os, hb.tape, hb.output, hb.size, fun k hk _ => hb.block k hk⟩ (Classical.em _)
  exact ⟨h.blk.kept (hb.block lb h.lt), fun i hi => hk (h.arow i hi), fun i hi => hk (h.mrow i hi), h.ad, h.md⟩
theorem own_type {w : World} {base : Nat} {e : TypeId} {size : Nat} {v : Value} {n : Nat} {xs : List Value} (h : w.ownsRow base e size v n xs) {g : Nat} (hg : v.ownBlock = some g) : (∃ cur, w.heap[g]? = some (.cells cur e (0, 0))) ∧ base ≤ g := by
  rcases h.2 with ⟨rfl, _⟩ | ⟨g', cap, cur, rfl, hb, hh, _⟩
  · simp [Value.ownBlock] at hg
  · have : g' = g := by simpa [Value.ownBlock] using hg
    subst this
    exact ⟨⟨cur, hh⟩, hb⟩
theorem own_lt {w : World} {base : Nat} {e : TypeId} {size : Nat} {v : Value} {n : Nat} {xs : List Value} (h : w.ownsRow base e size v n xs) {g : Nat} (hg : v.ownBlock = some g) : g < w.heap.size := by
  obtain ⟨⟨cur, hc⟩, _⟩ := own_type h hg
  exact (Array.getElem?_eq_some_iff.1 hc).1
theorem rows_apart {w : World} {v u : Value} {base base' : Nat} {e e' : TypeId} {size k size' k' : Nat} {xs xs' : List Value} (ho : w.ownsRow base e size v k xs) (ho' : w.ownsRow base' e' size' u k' xs') (he : e ≠ e') : v.ownBlock = none ∨ v.ownBlock ≠ u.ownBlock := by
  cases hv : v.ownBlock with
  | none => exact Or.inl rfl
  | some g =>
    refine Or.inr fun hg => ?_
    obtain ⟨⟨cur, hc⟩, _⟩ := own_type ho hv
    obtain ⟨⟨cur', hc'⟩, _⟩ := own_type ho' hg.symm
    have := hc.symm.trans hc'
    simp at this
    exact he this.2
theorem row_not {w : World} {lb : Nat} {v : Value} {e : TypeId} {size n : Nat} {xs : List Value} (ho : w.ownsRow (lb + 1) e size v n xs) : v.ownBlock ≠ some lb := by
  intro hg
  have := (own_type ho hg).2
  omega
/-- All below lb is as it was, and so are all rows of strings. -/
structure Kp (lb : Nat) (w w' : World) : Prop where
  bel : Below lb w w'
  str : ∀ (k : Nat) (cs : Array Value) (fz : Nat × Nat), w.heap[k]? = some (.cells cs 9 fz) → w'.heap[k]? = some (.cells cs 9 fz)
theorem Kp.trans {lb : Nat} {a b c : World} (h : Kp lb a b) (k : Kp lb b c) : Kp lb a c := ⟨h.bel.trans k.bel, fun i cs fz hi => k.str i cs fz (h.str i cs fz hi)⟩
theorem Kp.of_below {lb : Nat} {w w' : World} (h : Below w.heap.size w w') (hl : lb ≤ w.heap.size) : Kp lb w w' := ⟨h.mono hl, fun i _ _ hi => (h.block i (Array.getElem?_eq_some_iff.1 hi).1).trans hi⟩
theorem Kp.set {w : World} {lb n : Nat} {rs : Nat → Rl} (h : LBlk w lb n rs) (k : Nat) (v : Value) : Kp lb w (w.setCell ⟨lb, k, none⟩ v) := by
  refine ⟨(Below.refl lb w).setCell (p := ⟨lb, k, none⟩) (Nat.le_refl _) _, fun i cs fz hi => (Below.heap_setCell _ _ _ _ fun e => ?_).trans hi⟩
  simp at e
  subst e
  obtain ⟨cs', hb, _⟩ := h
  have := hi.symm.trans hb
  simp at this
theorem apart_upd {f : Nat → Value} {n t : Nat} {u' : Value} (h : ∀ i j, i < n → j < n → i ≠ j → Apart (f i) (f j)) (_ht : t < n) (hz : ∀ i, i < n → i ≠ t → Apart (f i) u' ∧ Apart u' (f i)) :
    ∀ i j, i < n → j < n → i ≠ j → Apart (if i = t then u' else f i) (if j = t then u' else f j) := by
  intro i j hi hj hij
  by_cases h1 : i = t
  · rw [if_pos h1, if_neg (by omega)]
    exact (hz j hj (by omega)).2
  · rw [if_neg h1]
    by_cases h2 : j = t
    · rw [if_pos h2]; exact (hz i hi h1).1
    · rw [if_neg h2]; exact h i j hi hj hij
/-- The words of a table's rules turned. -/
theorem LawAt.words {w : World} {lb n t : Nat} {rs : Nat → Rl} (h : LawAt w lb n rs) (ht : t < n) (S : ByteArray) :
    LawAt (w.setCell ⟨lb, t * 3, none⟩ (.string S)) lb n (updR rs t { rs t with wd := S }) := by
  have hset : w.grownBy (w.setCell ⟨lb, t * 3, none⟩ (.string S)) (some lb) := ⟨rfl, rfl, rfl, by simp [World.setCell], fun k _ hk => Below.heap_setCell _ _ _ _ (fun e => hk (by simp [e]))⟩
  have e1 : ∀ i, (updR rs t { rs t with wd := S } i).av = (rs i).av ∧ (updR rs t { rs t with wd := S } i).mv = (rs i).mv ∧ (updR rs t { rs t with wd := S } i).na = (rs i).na ∧ (updR rs t { rs t with wd := S } i).xs = (rs i).xs ∧ (updR rs t { rs t with wd := S } i).ms = (rs i).ms := by
    intro i
    by_cases hi : i = t
    · subst hi; rw [updR_at]; simp
    · rw [updR_ne _ _ _ hi]; simp
  refine ⟨h.blk.set ht _ _ _ (Or.inl ⟨rfl, rfl, rfl, rfl⟩), fun i hi => ?_, fun i hi => ?_, fun i j => ?_, fun i j => ?_⟩
  · obtain ⟨q1, q2, q3, q4, q5⟩ := e1 i
    rw [q1, q3, q4]; exact (h.arow i hi).kept hset (Or.inr (row_not (h.arow i hi)))
  · obtain ⟨q1, q2, q3, q4, q5⟩ := e1 i
    rw [q2, q5]; exact (h.mrow i hi).kept hset (Or.inr (row_not (h.mrow i hi)))
  · rw [(e1 i).1, (e1 j).1]; exact h.ad i j
  · rw [(e1 i).2.1, (e1 j).2.1]; exact h.md i j
/-- What an append to a row of the law's leaves. -/
structure Grew (w2 w3 : World) (lb : Nat) (v v' : Value) : Prop where
  grown : w2.grownBy w3 v.ownBlock
  own : v'.ownBlock = v.ownBlock ∨ ∃ g, v'.ownBlock = some g ∧ w2.heap.size ≤ g
theorem Grew.apart {w2 w3 : World} {lb base size m : Nat} {e : TypeId} {v v' u : Value} {xs : List Value} (h : Grew w2 w3 lb v v') (hu : w2.ownsRow base e size u m xs) (h1 : Apart u v) (h2 : Apart v u) : Apart u v' ∧ Apart v' u := by
  rcases h.own with ho | ⟨g, ho, hg⟩
  · unfold Apart; rw [ho]; exact ⟨h1, h2⟩
  · have hne : u.ownBlock = none ∨ u.ownBlock ≠ some g := by
      cases hu' : u.ownBlock with
      | none => exact Or.inl rfl
      | some k =>
        have := own_lt hu hu'
        exact Or.inr (by simp; omega)
    unfold Apart
    rw [ho]
    refine ⟨hne, Or.inr fun e => ?_⟩
    rcases hne with h | h
    · rw [h] at e; cases e
    · exact h e.symm
theorem Grew.kp {w2 w3 : World} {lb n base : Nat} {e : TypeId} {size m : Nat} {rs : Nat → Rl} {v v' : Value} {xs : List Value} (h : Grew w2 w3 lb v v') (hv : w2.ownsRow base e size v m xs) (hb : lb < base) (he : e ≠ 9) (hL : LBlk w2 lb n rs) : Kp lb w2 w3 ∧ LBlk w3 lb n rs := by
  have hlt : lb < w2.heap.size := by
    obtain ⟨cs, hb, _⟩ := hL
    exact (Array.getElem?_eq_some_iff.1 hb).1
  refine ⟨⟨⟨h.grown.os, h.grown.tape, h.grown.output, h.grown.size, fun k hk => h.grown.block k (by omega) fun e => ?_⟩, fun k cs fz hk => ?_⟩, hL.kept (h.grown.block lb hlt fun e => ?_)⟩
  · have := (own_type hv e.symm).2; omega
  · have hk2 : k < w2.heap.size := (Array.getElem?_eq_some_iff.1 hk).1
    refine (h.grown.block k hk2 fun e' => ?_).trans hk
    obtain ⟨⟨cur, hc⟩, _⟩ := own_type hv e'.symm
    have := hk.symm.trans hc
    simp at this
    exact he this.2.1.symm
  · have := (own_type hv e.symm).2; omega
/-- One allow more. -/
theorem LawAt.allow {w2 w3 : World} {lb n t : Nat} {rs : Nat → Rl} {av' : Value} {us : List Value} (h : LawAt w2 lb n rs) (ht : t < n) (hrow : w3.ownsRow (lb + 1) 109 1 av' ((rs t).na + 1) ((rs t).xs ++ us)) (hg : Grew w2 w3 lb (rs t).av av') :
    LBlk w3 lb n rs ∧ LawAt (w3.setCell ⟨lb, t * 3 + 1, none⟩ av') lb n (updR rs t { rs t with av := av', na := (rs t).na + 1, xs := (rs t).xs ++ us }) ∧ Kp lb w2 (w3.setCell ⟨lb, t * 3 + 1, none⟩ av') := by
  obtain ⟨hk, hb3⟩ := hg.kp (h.arow t ht) (by omega) (by decide) h.blk
  have hset : w3.grownBy (w3.setCell ⟨lb, t * 3 + 1, none⟩ av') (some lb) := ⟨rfl, rfl, rfl, by simp [World.setCell], fun k _ hk => Below.heap_setCell _ _ _ _ (fun e => hk (by simp [e]))⟩
  refine ⟨hb3, ⟨hb3.set ht _ _ _ (Or.inr (Or.inl ⟨rfl, rfl, rfl, rfl⟩)), fun i hi => ?_, fun i hi => ?_, fun i j hi hj hij => ?_, fun i j hi hj hij => ?_⟩, hk.trans (Kp.set hb3 _ _)⟩
  · by_cases hit : i = t
    · subst hit; rw [updR_at]; exact hrow.kept hset (Or.inr (row_not hrow))
    · rw [updR_ne _ _ _ hit]
      have h3 := (h.arow i hi).kept hg.grown (h.ad i t hi ht hit)
      exact h3.kept hset (Or.inr (row_not h3))
  · have h3 := (h.mrow i hi).kept hg.grown (rows_apart (h.mrow i hi) (h.arow t ht) (by decide))
    have h4 := h3.kept hset (Or.inr (row_not h3))
    by_cases hit : i = t
    · subst hit; rw [updR_at]; exact h4
    · rw [updR_ne _ _ _ hit]; exact h4
  · have := apart_upd (f := fun i => (rs i).av) h.ad ht (u' := av') (fun i hi hit => hg.apart (h.arow i hi) (h.ad i t hi ht hit) (h.ad t i ht hi (Ne.symm hit))) i j hi hj hij
    unfold updR
    split <;> split <;> simp_all
  · unfold updR
    have := h.md i j hi hj hij
    split <;> split <;> simp_all
/-- One mask more. -/
theorem LawAt.mask {w2 w3 : World} {lb n t : Nat} {rs : Nat → Rl} {mv' : Value} {m : MRow} (h : LawAt w2 lb n rs) (ht : t < n) (hrow : w3.ownsRow (lb + 1) 340 5 mv' ((rs t).ms.length + 1) (flatM (rs t).ms ++ m.cells)) (hg : Grew w2 w3 lb (rs t).mv mv') :
    LBlk w3 lb n rs ∧ LawAt (w3.setCell ⟨lb, t * 3 + 2, none⟩ mv') lb n (updR rs t { rs t with mv := mv', ms := (rs t).ms ++ [m] }) ∧ Kp lb w2 (w3.setCell ⟨lb, t * 3 + 2, none⟩ mv') := by
  obtain ⟨hk, hb3⟩ := hg.kp (h.mrow t ht) (by omega) (by decide) h.blk
  have hset : w3.grownBy (w3.setCell ⟨lb, t * 3 + 2, none⟩ mv') (some lb) := ⟨rfl, rfl, rfl, by simp [World.setCell], fun k _ hk => Below.heap_setCell _ _ _ _ (fun e => hk (by simp [e]))⟩
  have hfl : flatM ((rs t).ms ++ [m]) = flatM (rs t).ms ++ m.cells := by simp [flatM]
  refine ⟨hb3, ⟨hb3.set ht _ _ _ (Or.inr (Or.inr ⟨rfl, rfl, rfl, rfl⟩)), fun i hi => ?_, fun i hi => ?_, fun i j hi hj hij => ?_, fun i j hi hj hij => ?_⟩, hk.trans (Kp.set hb3 _ _)⟩
  · have h3 := (h.arow i hi).kept hg.grown (rows_apart (h.arow i hi) (h.mrow t ht) (by decide))
    have h4 := h3.kept hset (Or.inr (row_not h3))
    by_cases hit : i = t
    · subst hit; rw [updR_at]; exact h4
    · rw [updR_ne _ _ _ hit]; exact h4
  · by_cases hit : i = t
    · subst hit; rw [updR_at]
      show World.ownsRow _ _ _ _ _ ((rs i).ms ++ [m]).length (flatM ((rs i).ms ++ [m]))
      rw [hfl, List.length_append]; exact hrow.kept hset (Or.inr (row_not hrow))
    · rw [updR_ne _ _ _ hit]
      have h3 := (h.mrow i hi).kept hg.grown (h.md i t hi ht hit)
      exact h3.kept hset (Or.inr (row_not h3))
  · unfold updR
    have := h.ad i j hi hj hij
    split <;> split <;> simp_all
  · have := apart_upd (f := fun i => (rs i).mv) h.md ht (u' := mv') (fun i hi hit => hg.apart (h.mrow i hi) (h.md i t hi ht hit) (h.md t i ht hi (Ne.symm hit))) i j hi hj hij
    unfold updR
    split <;> split <;> simp_all
end Go.Proofs.YtnpjldffciociaaGreatDoor
namespace Go.Proofs.YtnpjldffciociaaGreatDoor
open Go.RowKit

theorem Grew.of_alloc {w2 w3 : World} {o : Obj} {lb : Nat} {v v' : Value} (hg : (w2.alloc o).grownBy w3 v.ownBlock) (hat : v'.ownBlock = v.ownBlock ∨ v'.ownBlock = some (w2.alloc o).heap.size) : Grew w2 w3 lb v v' := by
  have hba : Below w2.heap.size w2 (w2.alloc o) := (Below.refl _ _).alloc (Nat.le_refl _) _
  refine ⟨⟨hg.os, hg.tape, hg.output, ?_, fun k hk hne => (hg.block k (by simp; omega) hne).trans (hba.block k hk)⟩, ?_⟩
  · have := hg.size; simp at this; omega
  · rcases hat with h | h
    · exact Or.inl h
    · exact Or.inr ⟨_, h, by simp⟩
set_option maxRecDepth 10000 in
set_option maxHeartbeats 1000000 in
theorem pallow_last (rb lb o : Nat) (ta : Option Addr) (tn tc : Nat) (w : World) (R : Value → World → Prop)
    (h2 : Calls Tryz.prog 209 #[.pointer (some ⟨rb, 0, none⟩), .slice ta tn tc] w fun e w' => ∃ p te pe, e = .returned (.tuple #[.pointer p, .iface te pe]) ∧ R (.iface te pe) w') :
    Calls Tryz.prog 157 #[.pointer (some ⟨rb, 0, none⟩), .pointer (some ⟨lb, o, none⟩), .slice ta tn tc] w fun e w' => ∃ te pe, e = .returned (.iface te pe) ∧ R (.iface te pe) w' := by
  go_enter Tryz.func157, Tryz.ntmps157
  go_wp2_with (go_at_call 209; refine h2.mono ?_; rintro e w2 ⟨p, te, pe, rfl, hR⟩)
  go_ret
  exact ⟨te, pe, rfl, hR⟩
set_option maxRecDepth 10000 in
set_option maxHeartbeats 2000000 in
theorem pallow_yes (rb lb n t : Nat) (rs : Nat → Rl) (ht : t < n) (ta : Option Addr) (tn tc : Nat) (w : World) (Q : World → Prop) (hna : (rs t).na ≤ 1000)
    (h2 : Calls Tryz.prog 209 #[.pointer (some ⟨rb, 0, none⟩), .slice ta tn tc] w fun e w' => (∃ b : Nat, e = .returned (.tuple #[.pointer (some ⟨b, 0, none⟩), .nilIface])) ∧ LawAt w' lb n rs ∧ Q w') :
    Calls Tryz.prog 157 #[.pointer (some ⟨rb, 0, none⟩), .pointer (some ⟨lb, t * 3, none⟩), .slice ta tn tc] w fun e w' => e = .returned .nilIface ∧ ∃ w2 av' us, Q w2 ∧ LawAt w' lb n (updR rs t { rs t with av := av', na := (rs t).na + 1, xs := (rs t).xs ++ us }) ∧ Kp lb w2 w' := by
  obtain ⟨j0, hj, hy0, hy1, hy2⟩ := info_parts Tryz.infoPC
  go_enter Tryz.func157, Tryz.ntmps157
  go_wp2_with (first
    | (go_at_call 209; refine h2.mono ?_; rintro e w2 ⟨⟨b, rfl⟩, hL, hQ⟩; obtain ⟨_, k1, _⟩ := hL.blk.cells ht; have hlb := hL.lt; obtain ⟨aa, ac, hav, _⟩ := row_slice (hL.arow t ht); rw [hav] at k1; have HL := hidR hL; have HAV := hidR hav; clear hL hav)
    | (at_builtin; refine wpList_append_own_at _ rfl _ _ 255 rfl (lb + 1) 109 j0 (.pointer none) 1 8 Tryz.underlying255 hj hy0 hy1 hy2 rfl (by decide) (.slice aa (rs t).na ac) (rs t).na (rs t).xs rfl (by have := (HL.out.arow t ht).alloc (.cells #[.pointer (some ⟨b, 0, none⟩)] 109); rw [HAV.out] at this; exact this) ⟨w2.heap.size, 0, none⟩ 1 1 [.pointer (some ⟨b, 0, none⟩)] rfl rfl (cell_one_new w2 _ _) ?ha ?hb ?hc ?hd ?_; (case ha => intro u hu; simp at hu; subst hu; rfl); (case hb => unfold maxLen; omega); (case hc => omega); (case hd => simp; omega); intro av' w3 hrow hg _ hat; rw [← HAV.out] at hg hat; have HQ := hidR (HL.out.allow ht hrow (Grew.of_alloc hg hat)); have q0 := (HQ.out.1.cells ht).2.1; rw [HAV.out] at q0; have qf := HQ.out.1.frozen (t * 3 + 1); obtain ⟨pa, pc, rfl, _⟩ := row_slice hrow; clear hrow hg hat))
  go_ret
  first | exact ⟨rfl, w2, _, _, hQ, HQ.out.2.1, HQ.out.2.2⟩ | exact ⟨rfl, w2, hQ, ⟨_, _, HQ.out.2.1⟩, HQ.out.2.2⟩
set_option maxRecDepth 10000 in
set_option maxHeartbeats 1000000 in
theorem pmask_col (rb lb o : Nat) (ta : Option Addr) (tn tc : Nat) (w : World) (R : Value → World → Prop)
    (h2 : Calls Tryz.prog 210 #[.pointer (some ⟨rb, 0, none⟩)] w fun e w' => ∃ te pe, e = .returned (.tuple #[.int .i64 0, .iface te pe]) ∧ R (.iface te pe) w') :
    Calls Tryz.prog 158 #[.pointer (some ⟨rb, 0, none⟩), .pointer (some ⟨lb, o, none⟩), .slice ta tn tc] w fun e w' => ∃ te pe, e = .returned (.iface te pe) ∧ R (.iface te pe) w' := by
  go_enter Tryz.func158, Tryz.ntmps158
  go_wp2_with (go_at_call 210; refine h2.mono ?_; rintro e w2 ⟨te, pe, rfl, hR⟩)
  go_ret
  exact ⟨te, pe, rfl, hR⟩
set_option maxRecDepth 10000 in
set_option maxHeartbeats 1000000 in
theorem pmask_val (rb lb o c : Nat) (ta : Option Addr) (tn tc : Nat) (x : List UInt8) (w : World) (P2 P3 : World → Prop) (R : Value → World → Prop)
    (h2 : Calls Tryz.prog 210 #[.pointer (some ⟨rb, 0, none⟩)] w fun e w' => e = .returned (.tuple #[.int .i64 c, .nilIface]) ∧ P2 w')
    (h3 : ∀ w1, P2 w1 → Calls Tryz.prog 156 #[.pointer (some ⟨rb, 0, none⟩)] w1 fun e w' => e = .returned (.string (bs x)) ∧ P3 w')
    (h4 : ∀ w1, P3 w1 → Calls Tryz.prog 211 #[.pointer (some ⟨rb, 0, none⟩), .string (bs x)] w1 fun e w' => ∃ te pe, e = .returned (.tuple #[.agg #[.int .i64 0, .int .i64 0, .string ⟨#[]⟩], .iface te pe]) ∧ R (.iface te pe) w') :
    Calls Tryz.prog 158 #[.pointer (some ⟨rb, 0, none⟩), .pointer (some ⟨lb, o, none⟩), .slice ta tn tc] w fun e w' => ∃ te pe w1, e = .returned (.iface te pe) ∧ R (.iface te pe) w1 ∧ Below w1.heap.size w1 w' := by
  go_enter Tryz.func158, Tryz.ntmps158
  go_wp2_with (first
    | (go_at_call 210; refine h2.mono ?_; rintro e w2 ⟨rfl, hP2⟩)
    | (go_at_call 156; refine (h3 _ hP2).mono ?_; rintro e w3 ⟨rfl, hP3⟩)
    | (go_at_call 211; refine (h4 _ hP3).mono ?_; rintro e w4 ⟨te, pe, rfl, hR⟩))
  go_ret
  exact ⟨te, pe, w4, rfl, hR, (Below.refl _ _).alloc (Nat.le_refl _) _⟩
set_option maxRecDepth 10000 in
set_option maxHeartbeats 2000000 in
theorem pmask_type (rb lb o c : Nat) (ta : Option Addr) (tn tc : Nat) (x : List UInt8) (vt y : Int) (hne : y ≠ vt) (w : World) (P2 P3 P4 : World → Prop) (R : Value → World → Prop)
    (h2 : Calls Tryz.prog 210 #[.pointer (some ⟨rb, 0, none⟩)] w fun e w' => e = .returned (.tuple #[.int .i64 c, .nilIface]) ∧ P2 w')
    (h3 : ∀ w1, P2 w1 → Calls Tryz.prog 156 #[.pointer (some ⟨rb, 0, none⟩)] w1 fun e w' => e = .returned (.string (bs x)) ∧ P3 w')
    (h4 : ∀ w1, P3 w1 → Calls Tryz.prog 211 #[.pointer (some ⟨rb, 0, none⟩), .string (bs x)] w1 fun e w' => (∃ n S, e = .returned (.tuple #[.agg #[.int .i64 vt, .int .i64 n, .string S], .nilIface])) ∧ P4 w')
    (hS : ∀ w4 W, P4 w4 → Below w4.heap.size w4 W → ∀ m, Calls Tryz.prog 212 #[.slice ta tn tc, .int .i64 c] (W.drewN m) fun e w' => e = .returned (.int .i64 y) ∧ w' = W.drewN m)
    (hF : ∀ w4 W s, P4 w4 → Below w4.heap.size w4 W → Calls Tryz.prog 98 #[.pointer (some ⟨rb, 0, none⟩), .string s] W fun e w' => ∃ te pe, e = .returned (.iface te pe) ∧ R (.iface te pe) w') :
    Calls Tryz.prog 158 #[.pointer (some ⟨rb, 0, none⟩), .pointer (some ⟨lb, o, none⟩), .slice ta tn tc] w fun e w' => ∃ te pe, e = .returned (.iface te pe) ∧ R (.iface te pe) w' := by
  have hne' : (y != vt) = true := by simpa using hne
  go_enter Tryz.func158, Tryz.ntmps158
  go_wp2_with (first
    | (go_at_call 210; refine h2.mono ?_; rintro e w2 ⟨rfl, hP2⟩)
    | (go_at_call 156; refine (h3 _ hP2).mono ?_; rintro e w3 ⟨rfl, hP3⟩)
    | (go_at_call 211; refine (h4 _ hP3).mono ?_; rintro e w4 ⟨⟨n, S, rfl⟩, hP4⟩))
  have hba : Below w4.heap.size w4 (w4.alloc (.cells #[.int .i64 vt, .int .i64 n, .string S] 335)) := (Below.refl _ _).alloc (Nat.le_refl _) _
  have hT := hS w4 _ hP4 hba
  go_quiet (first | (go_at_call 212; exact quiet_c hT _) | (go_at_call 212; exact quiet_d hT _ _) | (go_at_call 212; exact quiet_e hT _ _))
  have hf := fun s => hF w4 ((w4.alloc (.cells #[.int .i64 vt, .int .i64 n, .string S] 335)).drewN nq) s hP4 (belowN hba nq)
  go_wp2_with (go_at_call 98; refine (hf _).mono ?_; rintro e w5 ⟨te, pe, rfl, hR⟩)
  go_ret
  exact ⟨te, pe, rfl, hR⟩
end Go.Proofs.YtnpjldffciociaaGreatDoor
