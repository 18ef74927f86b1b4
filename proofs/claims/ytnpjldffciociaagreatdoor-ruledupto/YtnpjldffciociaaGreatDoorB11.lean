import Derived.Test.YtnpjldffciociaaGreatDoorB10
import Derived.Deep.LoopGhost
namespace Go.Proofs.YtnpjldffciociaaGreatDoor
open Go.RowKit Go.Extern.Stop Go.Stop Go.Extern

/-- An error with a fault of that number, in block b, at its bottom. -/
def Chain (w : World) (n : Int) (b : Nat) : Nat → Value → Prop
  | 0, v => b < w.heap.size ∧ w.cell? ⟨b, 0, none⟩ = some (.int .i64 n) ∧ v = .iface 175 (.pointer (some ⟨b, 0, none⟩))
  | d + 1, v => ∃ b2 e, b2 < w.heap.size ∧ w.cell? ⟨b2, 2, none⟩ = some e ∧ Chain w n b d e ∧ v = .iface 172 (.pointer (some ⟨b2, 0, none⟩))

theorem Chain.fault {w : World} {n : Int} {b : Nat} (hb : b < w.heap.size) (h : w.cell? ⟨b, 0, none⟩ = some (.int .i64 n)) : Chain w n b 0 (.iface 175 (.pointer (some ⟨b, 0, none⟩))) := ⟨hb, h, rfl⟩
theorem Chain.place {w : World} {n : Int} {b : Nat} (d b2 : Nat) (e : Value) (hb : b2 < w.heap.size) (h : w.cell? ⟨b2, 2, none⟩ = some e) (hc : Chain w n b d e) : Chain w n b (d + 1) (.iface 172 (.pointer (some ⟨b2, 0, none⟩))) := ⟨b2, e, hb, h, hc, rfl⟩
theorem Chain.ind {w : World} {n : Int} {b : Nat} {motive : (d : Nat) → (e : Value) → Chain w n b d e → Prop} (fault : ∀ (hb : b < w.heap.size) (h : w.cell? ⟨b, 0, none⟩ = some (.int .i64 n)), motive 0 _ (Chain.fault hb h))
    (place : ∀ (d b2 : Nat) (e : Value) (hb : b2 < w.heap.size) (h : w.cell? ⟨b2, 2, none⟩ = some e) (hc : Chain w n b d e), motive d e hc → motive (d + 1) _ (Chain.place d b2 e hb h hc)) : ∀ {d : Nat} {e : Value} (h : Chain w n b d e), motive d e h := by
  intro d
  induction d with
  | zero => rintro e ⟨hb, h, rfl⟩; exact fault hb h
  | succ d ih => rintro e ⟨b2, e2, hb, h, hc, rfl⟩; exact place d b2 e2 hb h hc (ih hc)
theorem Chain.ways {w : World} {n : Int} {b d : Nat} {e : Value} (h : Chain w n b d e) : (d = 0 ∧ b < w.heap.size ∧ w.cell? ⟨b, 0, none⟩ = some (.int .i64 n) ∧ e = .iface 175 (.pointer (some ⟨b, 0, none⟩))) ∨
    ∃ d' b2 e2, d = d' + 1 ∧ b2 < w.heap.size ∧ w.cell? ⟨b2, 2, none⟩ = some e2 ∧ Chain w n b d' e2 ∧ e = .iface 172 (.pointer (some ⟨b2, 0, none⟩)) := by
  induction h using Chain.ind with
  | fault hb h => exact Or.inl ⟨rfl, hb, h, rfl⟩
  | place d b2 e hb h hc _ => exact Or.inr ⟨d, b2, e, rfl, hb, h, hc, rfl⟩
theorem Chain.form {w : World} {n : Int} {b d : Nat} {e : Value} (h : Chain w n b d e) : ∃ te pe, e = .iface te pe := by
  rcases h.ways with ⟨_, _, _, h⟩ | ⟨_, _, _, _, _, _, _, h⟩ <;> exact ⟨_, _, h⟩
theorem Chain.kept {w w' : World} {n : Int} {b d : Nat} {e : Value} (h : Chain w n b d e) (hb : Below w.heap.size w w') : Chain w' n b d e := by
  induction d generalizing e with
  | zero =>
    obtain ⟨hl, hc, he⟩ := h
    exact ⟨Nat.lt_of_lt_of_le hl hb.size, (hb.cell (p := ⟨b, 0, none⟩) hl).trans hc, he⟩
  | succ d ih =>
    obtain ⟨b2, e2, hl, hc, hd, he⟩ := h
    exact ⟨b2, e2, Nat.lt_of_lt_of_le hl hb.size, (hb.cell (p := ⟨b2, 2, none⟩) hl).trans hc, ih hd, he⟩
theorem Chain.bottom {w : World} {n : Int} {b d : Nat} {e : Value} (h : Chain w n b d e) : b < w.heap.size ∧ w.cell? ⟨b, 0, none⟩ = some (.int .i64 n) := by
  induction d generalizing e with
  | zero => exact ⟨h.1, h.2.1⟩
  | succ d ih =>
    obtain ⟨_, _, _, _, hd, _⟩ := h
    exact ih hd
/-- An error with a fault of that number at its bottom. -/
def Err (w : World) (n : Int) (e : Value) : Prop := ∃ b d, Chain w n b d e
theorem Err.kept {w w' : World} {n : Int} {e : Value} (h : Err w n e) (hb : Below w.heap.size w w') : Err w' n e := by
  obtain ⟨b, d, h⟩ := h
  exact ⟨b, d, h.kept hb⟩

theorem as_nil (t : Value) (w : World) :
    Calls Tryz.prog 97 #[.nilIface, t] w fun e w' => e = .returned (.bool false) ∧ w' = w := by
  go_enter Tryz.func97, Tryz.ntmps97
  go_wp2
  go_ret
  exact ⟨rfl, rfl⟩

set_option maxRecDepth 10000 in
set_option maxHeartbeats 4000000 in
theorem as_chain (n : Int) (b d : Nat) (e : Value) (t a : Addr) (old : Value) (w : World) (hch : Chain w n b d e) (hta : w.cell? t = some old) (hft : w.frozen? t = false) (haa : w.cell? a = some (.pointer (some t))) :
    Calls Tryz.prog 150 #[e, .iface 177 (.pointer (some t)), .agg #[.pointer (some ⟨9, 177, none⟩), .pointer (some a), .int .u64 150], .iface 316 (.agg #[.pointer (some ⟨9, 175, none⟩)])] w
      fun ev w' => ev = .returned (.bool true) ∧ ∃ W, w' = W.setCell t (.pointer (some ⟨b, 0, none⟩)) ∧ Below w.heap.size w W := by
  have h45 := @run_callFunc_extern Tryz.prog 147 _ (fun args => ReflectliteValue.unpack (args.getD 0 (.tuple #[]))) Tryz.func147 (by kernel_rfl) (by kernel_rfl) (by kernel_rfl) (by kernel_rfl)
  have h70 := @run_callFunc_extern Tryz.prog 195 _ ReflectliteType.typeOf Tryz.func195 (by kernel_rfl) (by kernel_rfl) (by kernel_rfl) (by kernel_rfl)
  have h185 := @run_callFunc_extern Tryz.prog 423 _ (ReflectliteType.relation "AssignableTo" ReflectliteType.assignableTo) Tryz.func423 (by kernel_rfl) (by kernel_rfl) (by kernel_rfl) (by kernel_rfl)
  have h71 := @run_callFunc_extern Tryz.prog 196 _ (ReflectliteValue.method (ReflectliteValue.valueError "reflectlite.Value.Elem" 0) ReflectliteValue.elem) Tryz.func196 (by kernel_rfl) (by kernel_rfl) (by kernel_rfl) (by kernel_rfl)
  have h72 := @run_callFunc_extern Tryz.prog 197 _ ReflectliteValue.set Tryz.func197 (by kernel_rfl) (by kernel_rfl) (by kernel_rfl) (by kernel_rfl)
  have tF := Tryz.rTypeOfF
  have tP := Tryz.rTypeOfP
  have aF := Tryz.rAssF
  have aP := Tryz.rAssP
  have vF := Tryz.rValueOfF
  have tA1 : ∀ (p : Value) (w : World), (Instr.typeAssert (.iface 172 p) 100 321 true).run Tryz.prog w = .ok (.tuple #[.nilIface, .bool false]) w := fun p w => run_typeAssert_lacksB Tryz.underlying321 (by kernel_rfl) (by kernel_rfl) p _ w
  have tA2 : ∀ (p : Value) (w : World), (Instr.typeAssert (.iface 172 p) 100 324 true).run Tryz.prog w = .ok (.tuple #[.iface 172 p, .bool true]) w := fun p w => run_typeAssert_hasB Tryz.underlying324 (by kernel_rfl) p _ w
  have htl : t.block < w.heap.size := by
    rcases Nat.lt_or_ge t.block w.heap.size with h | h
    · exact h
    · simp [World.cell?, Array.getElem?_eq_none h] at hta
  have hal : a.block < w.heap.size := by
    rcases Nat.lt_or_ge a.block w.heap.size with h | h
    · exact h
    · simp [World.cell?, Array.getElem?_eq_none h] at haa
  have el : ∀ o, _ := fun o => Tryz.rElemV a t (w.alloc o) (by rw [World.cell?_alloc_lt _ _ a hal]; exact haa)
  have st : ∀ o b, _ := fun o b => Tryz.rSet t ⟨w.heap.size + 1, 0, none⟩ ⟨b, 0, none⟩ old ((w.alloc o).alloc (.cells #[.pointer (some ⟨b, 0, none⟩)] 175)) (by rw [World.cell?_alloc_at _ _ _ _ (by simp)]; rfl)
    (by rw [World.cell?_alloc_lt _ _ t (by simp; omega), World.cell?_alloc_lt _ _ t htl]; exact hta)
    (by rw [World.frozen?_alloc_old _ _ t (by simp; omega), World.frozen?_alloc_old _ _ t (Nat.ne_of_lt htl)]; exact hft)
  have HTA : Hid _ := hta
  have HFT : Hid _ := hft
  have HAA : Hid _ := haa
  clear hta hft haa
  go_enter Tryz.func150, Tryz.ntmps150
  go_wp2
  go_loopg [0] d (fun k e wr => Chain w n b k e ∧ wr = w.alloc (.cells #[.pointer (some ⟨9, 177, none⟩), .pointer (some a), .int .u64 150] 240))
  case atStart => exact ⟨hch, rfl⟩
  case round =>
    obtain ⟨hc, rfl⟩ := hrel
    rcases hc.ways with ⟨rfl, hb, hcell, rfl⟩ | ⟨d, b2, e, rfl, hb, hcell, hcn, rfl⟩
    · clear hc
      go_wp2
      go_ret
      exact ⟨rfl, _, rfl, ((Below.refl _ _).alloc (Nat.le_refl _) _).alloc (by simp) _⟩
    · clear hc
      have hc := hcn
      clear hcn
      have hc2 : ∀ o, (w.alloc o).cell? ⟨b2, 2, none⟩ = some e := fun o => by rw [World.cell?_alloc_lt _ _ _ hb]; exact hcell
      obtain ⟨te, pe, rfl⟩ : ∃ te pe, e = .iface te pe := hc.form
      have HCH : Hid _ := hc
      clear hc
      go_wp2
      go_roundg d
      case rel => exact ⟨HCH.out, rfl⟩
      case measure => omega

set_option maxRecDepth 10000 in
set_option maxHeartbeats 4000000 in
theorem errorsAs_chain (n : Int) (b d : Nat) (e : Value) (t : Addr) (old : Value) (w : World) (hch : Chain w n b d e) (hta : w.cell? t = some old) (hft : w.frozen? t = false) (hg : w.cell? ⟨0, 0, none⟩ = some (.iface 316 (.agg #[.pointer (some ⟨9, 100, none⟩)]))) :
    Calls Tryz.prog 97 #[e, .iface 177 (.pointer (some t))] w
      fun ev w' => ev = .returned (.bool true) ∧ ∃ W, w' = W.setCell t (.pointer (some ⟨b, 0, none⟩)) ∧ Below w.heap.size w W := by
  have h45 := @run_callFunc_extern Tryz.prog 147 _ (fun args => ReflectliteValue.unpack (args.getD 0 (.tuple #[]))) Tryz.func147 (by kernel_rfl) (by kernel_rfl) (by kernel_rfl) (by kernel_rfl)
  have h46 := @run_callFunc_extern Tryz.prog 148 _ (ReflectliteValue.methodAny (ReflectliteValue.valueError "reflectlite.Value.Type" 0) (fun t _ _ _ => ReflectliteType.toType t)) Tryz.func148 (by kernel_rfl) (by kernel_rfl) (by kernel_rfl) (by kernel_rfl)
  have h47 := @run_callFunc_extern Tryz.prog 149 _ (ReflectliteValue.method (ReflectliteValue.valueError "reflectlite.Value.IsNil" 0) ReflectliteValue.isNil) Tryz.func149 (by kernel_rfl) (by kernel_rfl) (by kernel_rfl) (by kernel_rfl)
  have h174 := @run_callFunc_extern Tryz.prog 402 _ (ReflectliteType.abiMethod fun t => do pure (.int .u8 (← Rtype.kind t))) Tryz.func402 (by kernel_rfl) (by kernel_rfl) (by kernel_rfl) (by kernel_rfl)
  have h187 := @run_callFunc_extern Tryz.prog 425 _ (ReflectliteType.method ReflectliteType.elem) Tryz.func425 (by kernel_rfl) (by kernel_rfl) (by kernel_rfl) (by kernel_rfl)
  have h188 := @run_callFunc_extern Tryz.prog 426 _ (ReflectliteType.relation "Implements" ReflectliteType.implements_) Tryz.func426 (by kernel_rfl) (by kernel_rfl) (by kernel_rfl) (by kernel_rfl)
  have f6 := Tryz.rValueOfPP
  have f7 := Tryz.rTypePP
  have k1 := Tryz.rKindPP
  have k2 := Tryz.rKindP
  have e1 := Tryz.rElemT
  have i1 := Tryz.rImpl
  have hlt : 0 < w.heap.size := by
    rcases Nat.eq_zero_or_pos w.heap.size with h0 | h
    · simp [World.cell?, h0] at hg
    · exact h
  have htl : t.block < w.heap.size := by
    rcases Nat.lt_or_ge t.block w.heap.size with h | h
    · exact h
    · simp [World.cell?, Array.getElem?_eq_none h] at hta
  have n8 : ∀ o, _ := fun o => Tryz.rIsNil ⟨w.heap.size, 0, none⟩ t ((w.alloc (.cells #[.pointer (some t)] 177)).alloc o) (by simp)
  have hg2 : ∀ o o', ((w.alloc o).alloc o').cell? ⟨0, 0, none⟩ = some (.iface 316 (.agg #[.pointer (some ⟨9, 100, none⟩)])) := fun o o' => by
    rw [World.cell?_alloc_lt _ _ ⟨0, 0, none⟩ (by simp), World.cell?_alloc_lt _ _ ⟨0, 0, none⟩ hlt]; exact hg
  obtain ⟨te, pe, rfl⟩ : ∃ te pe, e = .iface te pe := hch.form
  have HCH : Hid _ := hch
  have hin : ∀ o o', Calls Tryz.prog 150 #[.iface te pe, .iface 177 (.pointer (some t)), .agg #[.pointer (some ⟨9, 177, none⟩), .pointer (some ⟨w.heap.size, 0, none⟩), .int .u64 150], .iface 316 (.agg #[.pointer (some ⟨9, 175, none⟩)])] ((w.alloc (.cells #[.pointer (some t)] 177)).alloc o') _ :=
    fun (o o' : Obj) => as_chain n b d (.iface te pe) t ⟨w.heap.size, 0, none⟩ old _ (hch.kept (((Below.refl _ _).alloc (Nat.le_refl _) _).alloc (by simp) _))
      (by rw [World.cell?_alloc_lt _ _ t (by simp; omega), World.cell?_alloc_lt _ _ t htl]; exact hta)
      (by rw [World.frozen?_alloc_old _ _ t (by simp; omega), World.frozen?_alloc_old _ _ t (Nat.ne_of_lt htl)]; exact hft) (by simp)
  have HTA : Hid _ := hta
  clear hch hta hft
  go_enter Tryz.func97, Tryz.ntmps97
  go_wp2_with (first | (go_at_call 150; refine (hin (.cells #[] 0) _).mono ?_; rintro ev w' ⟨rfl, W, rfl, hbW⟩) | go_in)
  go_ret
  exact ⟨rfl, W, rfl, (((Below.refl _ _).alloc (Nat.le_refl _) _).alloc (by simp) _).trans (hbW.mono (by simp; omega))⟩

/-- What every world of the program keeps: the variables of the library that its roads read. -/
def Glob (w : World) : Prop :=
  w.cell? ⟨0, 0, none⟩ = some (.iface 316 (.agg #[.pointer (some ⟨9, 100, none⟩)])) ∧ (∃ m : Int, w.cell? ⟨1, 0, none⟩ = some (.int .i64 m)) ∧
    (∃ t p, w.cell? ⟨7, 0, none⟩ = some (.iface t p)) ∧ (∃ t p, w.cell? ⟨8, 0, none⟩ = some (.iface t p)) ∧ 9 ≤ w.heap.size
theorem Glob.kept {w w' : World} (h : Glob w) (hb : Below w.heap.size w w') : Glob w' := by
  obtain ⟨h1, ⟨m, h2⟩, ⟨t, p, h3⟩, ⟨t', p', h4⟩, h5⟩ := h
  exact ⟨(hb.cell (p := ⟨0, 0, none⟩) (by show 0 < _; omega)).trans h1, ⟨m, (hb.cell (p := ⟨1, 0, none⟩) (by show 1 < _; omega)).trans h2⟩,
    ⟨t, p, (hb.cell (p := ⟨7, 0, none⟩) (by show 7 < _; omega)).trans h3⟩, ⟨t', p', (hb.cell (p := ⟨8, 0, none⟩) (by show 8 < _; omega)).trans h4⟩, Nat.le_trans h5 hb.size⟩

set_option maxRecDepth 10000 in
set_option maxHeartbeats 1000000 in
theorem errnoOf_nil (w : World) : Calls Tryz.prog 58 #[.nilIface] w fun ev w' => ev = .returned (.int .i64 0) ∧ Below w.heap.size w w' := by
  go_enter Tryz.func58, Tryz.ntmps58
  go_wp2_with (go_at_call 97; refine (as_nil _ _).mono ?_; rintro ev w' ⟨rfl, hw⟩; obtain rfl := hw.symm)
  go_ret
  exact ⟨rfl, by go_grown⟩

set_option maxRecDepth 10000 in
set_option maxHeartbeats 1000000 in
theorem errnoOf_err (n : Int) (e : Value) (w : World) (h : Err w n e) (hg : Glob w) : Calls Tryz.prog 58 #[e] w fun ev w' => ev = .returned (.int .i64 n) ∧ Below w.heap.size w w' := by
  obtain ⟨b, d, hc⟩ := h
  obtain ⟨hbl, hcb⟩ := hc.bottom
  have hA := fun o : Obj => errorsAs_chain n b d e ⟨w.heap.size, 0, none⟩ (.pointer none) (w.alloc (.cells #[.pointer none] 175)) (hc.kept ((Below.refl _ _).alloc (Nat.le_refl _) _)) (by simp) (by simp)
    (by rw [World.cell?_alloc_lt _ _ ⟨0, 0, none⟩ (by have := hg.2.2.2.2; show 0 < _; omega)]; exact hg.1)
  have HC : Hid _ := hc
  clear hc hg
  go_enter Tryz.func58, Tryz.ntmps58
  go_wp2_with (go_at_call 97; refine (hA (.cells #[] 0)).mono ?_; rintro ev w' ⟨rfl, W, rfl, hbW⟩; have hcT : W.cell? ⟨w.heap.size, 0, none⟩ = some (.pointer none) := ((hbW.cell (p := ⟨w.heap.size, 0, none⟩) (by simp)).trans (by simp)); have hcB : W.cell? ⟨b, 0, none⟩ = some (.int .i64 n) := ((hbW.cell (p := ⟨b, 0, none⟩) (by simp; omega)).trans (by rw [World.cell?_alloc_lt _ _ ⟨b, 0, none⟩ hbl]; exact hcb)); have hneb : ¬ b = w.heap.size := (by omega))
  go_ret
  exact ⟨rfl, (((Below.refl _ _).alloc (Nat.le_refl _) _).trans (hbW.mono (by simp))).setCell (by simp) _⟩
end Go.Proofs.YtnpjldffciociaaGreatDoor
