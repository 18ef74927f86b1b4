import Derived.Test.YtdnfhaojfdohdaaGreatDoorR03
namespace Go.Proofs.YtdnfhaojfdohdaaGreatDoor
open Go.RowKit

def keyM (m : MRow) : Nat × Nat := (m.t, m.c)
/-- A rule, given the masks ahead of it. -/
def ruleK (ts : List (List UInt8 × List Bool)) (ks : List (Nat × Nat)) (ws : List (List UInt8)) : Option (Option (Nat × Nat)) :=
  if wordAt ws 0 = wAllow then match allowP ts ws with
    | true => some none
    | false => none
  else if wordAt ws 0 = wMask then match maskP ts ws with
    | none => none
    | some k => if ks.contains k then none else some (some k)
  else none
/-- Rules, one after the other. -/
def lawGo (ts : List (List UInt8 × List Bool)) : List (Nat × Nat) → List (List UInt8) → Bool
  | _, [] => true
  | ks, p :: r => match ruleK ts ks (spl 32 p) with
    | none => false
    | some none => lawGo ts ks r
    | some (some k) => lawGo ts (ks ++ [k]) r
/-- What ReadLaw takes. -/
def lawP (ts : List (List UInt8 × List Bool)) (l : List UInt8) : Bool := l.isEmpty || (decide (l.count 32 + l.count 59 < 60) && lawGo ts [] (spl 59 l))
theorem hasMask_key (ms : List MRow) (t c : Nat) : hasMask ms t c = (ms.map keyM).contains (t, c) := by
  induction ms with
  | nil => rfl
  | cons m r ih =>
    have e : hasMask (m :: r) t c = ((decide (m.t = t) && decide (m.c = c)) || hasMask r t c) := by simp [hasMask]
    rw [e, ih]
    simp only [List.map_cons, List.contains_cons, keyM]
    congr 1
    rw [Bool.eq_iff_iff]
    simp only [Bool.and_eq_true, decide_eq_true_eq, beq_iff_eq, Prod.mk.injEq]
    exact ⟨fun h => ⟨h.1.symm, h.2.symm⟩, fun h => ⟨h.1.symm, h.2.symm⟩⟩
theorem ruleP_key (ts : List (List UInt8 × List Bool)) (ms : List MRow) (ws : List (List UInt8)) : ruleP ts ms ws = ruleK ts (ms.map keyM) ws := by
  unfold ruleP ruleK
  split
  · rfl
  · split
    · cases maskP ts ws with
      | none => rfl
      | some k => obtain ⟨t, c⟩ := k; simp only [hasMask_key]
    · rfl
theorem reads_new (w : World) (xs : List Value) (t : TypeId) (cap : Nat) : Reads (w.alloc (.cells xs.toArray t)) (.slice (some ⟨w.heap.size, 0, none⟩) xs.length cap) xs :=
  ⟨_, _, rfl, fun i u h => ⟨w.heap.size, 0, rfl, by simp, by rw [World.cell?_alloc_at _ _ _ _ rfl]; simpa using h⟩⟩
theorem LawAt.new {w : World} {lb : Nat} (h : w.heap[lb]? = some (.cells #[.slice none 0 0, .slice none 0 0] 187 (0, 0))) : LawAt w lb (.slice none 0 0) (.slice none 0 0) 0 [] [] :=
  ⟨h, ⟨rfl, .inl ⟨rfl, rfl⟩⟩, ⟨rfl, .inl ⟨rfl, rfl⟩⟩⟩
/-- The tables of a schema. -/
structure TabsOk (ts : List (List UInt8 × List Bool)) : Prop where
  few : ts.length ≤ 1048577
  narrow : ∀ t, (typesOf ts t).length ≤ 9
  named : ∀ t ∈ ts, t.1 ≠ []
/-- One round's call: the reader is new. -/
theorem rule_new (wr : World) (vs : Value) (ts : List (List UInt8 × List Bool)) (ws : List (List UInt8)) (lb na : Nat) (av mv : Value) (xs : List Value) (ms : List MRow) (hok : TabsOk ts) (hg : Glob wr) (hts : ReadsTabs tcode wr vs ts) (hL : LawAt wr lb av mv na xs ms) (hna : na ≤ 1000) (hnm : ms.length ≤ 1000) (hwl : ws.length ≤ 1048577) (hws : ∀ l ∈ ws, l.length ≤ 1048577) :
    Calls Tryz.prog 103 #[.pointer (some ⟨wr.heap.size + 1, 0, none⟩), .pointer (some ⟨lb, 0, none⟩)] ((wr.alloc (.cells (ws.map fun l => Value.string (bs l)).toArray 9)).alloc (.cells #[vs, .slice (some ⟨wr.heap.size, 0, none⟩) ws.length ws.length, .int .i64 0, .int .i64 4, .bool true] 174))
      fun e w' => (match ruleK ts (ms.map keyM) ws with
        | none => ∃ te pe, e = .returned (.iface te pe) ∧ Err w' 4 (.iface te pe)
        | some none => e = .returned .nilIface ∧ ∃ av mv xs, LawAt w' lb av mv (na + 1) xs ms
        | some (some (t, c)) => e = .returned .nilIface ∧ ∃ av mv xs m, m.t = t ∧ m.c = c ∧ LawAt w' lb av mv na xs (ms ++ [m])) ∧ Kp lb wr w' := by
  have hlb : lb < wr.heap.size := (Array.getElem?_eq_some_iff.1 hL.blk).1
  have hb : Below wr.heap.size wr (wr.alloc (.cells (ws.map fun l => Value.string (bs l)).toArray 9)) := (Below.refl _ _).alloc (Nat.le_refl _) _
  have hrd := reads_new wr (ws.map fun l => Value.string (bs l)) 9 ws.length
  rw [List.length_map] at hrd
  have hsz : (wr.alloc (.cells (ws.map fun l => Value.string (bs l)).toArray 9)).heap.size = wr.heap.size + 1 := by simp
  generalize wr.alloc (.cells (ws.map fun l => Value.string (bs l)).toArray 9) = w0 at *
  have hX : RX w0 (w0.alloc (.cells #[vs, .slice (some ⟨wr.heap.size, 0, none⟩) ws.length ws.length, .int .i64 0, .int .i64 4, .bool true] 174)) vs (.slice (some ⟨wr.heap.size, 0, none⟩) ws.length ws.length) ws 0 4 true :=
    ⟨⟨by simp, by simp, by simp, by simp, by simp, by simp, by simp⟩, (Below.refl _ _).alloc (Nat.le_refl _) _, RdAt.of_reads hrd ((Below.refl _ _).alloc (Nat.le_refl _) _), hwl, hws⟩
  have H : Hand w0 vs ts lb av mv na xs ms := ⟨hg.kept hb, hts.below hb, hok.few, hok.narrow, hok.named, hL.below hb, hna, hnm⟩
  have h := xrule w0 _ vs _ ts ws 4 lb na av mv xs ms H hX
  rw [hsz, ruleP_key] at h
  refine h.mono ?_
  rintro e w' ⟨h1, h2⟩
  exact ⟨h1, (Kp.of_below hb (Nat.le_of_lt hlb)).trans h2⟩

theorem Err.new' (w : World) (n : Int) (s : ByteArray) (m : Nat) (hm : m = w.heap.size) : Err (w.alloc (.cells #[.int .i64 n, .string s] 171)) n (.iface 167 (.pointer (some ⟨m, 0, none⟩))) := by
  subst hm; exact Err.new w n s
/-- What ReadLaw answers. -/
def LawAns (w : World) (ok : Bool) (e : Ending) : Prop :=
  ∃ v ev, e = .returned (.tuple #[v, ev]) ∧ match ok with
    | true => ev = .nilIface
    | false => Err w 4 ev

set_option maxRecDepth 10000 in
set_option maxHeartbeats 1000000 in
theorem rl_empty (a : Option Addr) (n cap : Nat) (w : World) :
    Calls Tryz.prog 59 #[.slice a n cap, .string ByteArray.empty] w fun e w' => LawAns w' true e ∧ Below w.heap.size w w' := by
  go_enter Tryz.func59, Tryz.ntmps59
  go_wp2
  go_ret2
  exact ⟨⟨_, _, rfl, rfl⟩, by go_grown⟩
set_option maxRecDepth 10000 in
set_option maxHeartbeats 1000000 in
theorem rl_many (a : Option Addr) (n cap : Nat) (s : ByteArray) (w : World) (k1 k2 : Nat) (he : s.toList.isEmpty = false) (h60 : 60 ≤ k1 + k2) (hk1 : k1 ≤ 4194304) (hk2 : k2 ≤ 4194304)
    (hc1 : ∀ w, Calls Tryz.prog 87 #[.string s, .string ⟨#[32]⟩] w fun e w' => e = .returned (.int .i64 k1) ∧ w' = w)
    (hc2 : ∀ w, Calls Tryz.prog 87 #[.string s, .string ⟨#[59]⟩] w fun e w' => e = .returned (.int .i64 k2) ∧ w' = w) :
    Calls Tryz.prog 59 #[.slice a n cap, .string s] w fun e w' => LawAns w' false e ∧ Below w.heap.size w w' := by
  go_enter Tryz.func59, Tryz.ntmps59
  go_wp2_with (first
    | (go_at_call 87; with_reducible refine (hc1 _).mono ?_; rintro e w' ⟨rfl, hw⟩; obtain rfl := hw.symm)
    | (go_at_call 87; with_reducible refine (hc2 _).mono ?_; rintro e w' ⟨rfl, hw⟩; obtain rfl := hw.symm))
  go_ret2
  exact ⟨⟨_, _, rfl, Err.new' _ _ _ _ (by simp)⟩, by go_grown⟩
end Go.Proofs.YtdnfhaojfdohdaaGreatDoor
namespace Go.Proofs.YtdnfhaojfdohdaaGreatDoor
open Go.RowKit

theorem lg_no {ts : List (List UInt8 × List Bool)} {ks : List (Nat × Nat)} {p : List UInt8} {r : List (List UInt8)} (h : ruleK ts ks (spl 32 p) = none) : lawGo ts ks (p :: r) = false := by simp [lawGo, h]
theorem lg_allow {ts : List (List UInt8 × List Bool)} {ks : List (Nat × Nat)} {p : List UInt8} {r : List (List UInt8)} (h : ruleK ts ks (spl 32 p) = some none) : lawGo ts ks (p :: r) = lawGo ts ks r := by simp [lawGo, h]
theorem lg_mask {ts : List (List UInt8 × List Bool)} {ks : List (Nat × Nat)} {p : List UInt8} {r : List (List UInt8)} {k : Nat × Nat} (h : ruleK ts ks (spl 32 p) = some (some k)) : lawGo ts ks (p :: r) = lawGo ts (ks ++ [k]) r := by simp [lawGo, h]

set_option maxRecDepth 10000 in
set_option maxHeartbeats 4000000 in
theorem rl_go (a : Option Addr) (cap : Nat) (s : ByteArray) (w : World) (k1 k2 : Nat) (ts : List (List UInt8 × List Bool)) (ps : List (List UInt8)) (he : s.toList.isEmpty = false) (h60 : k1 + k2 < 60) (hpl : ps.length = k2 + 1) (hok : TabsOk ts) (hts : ReadsTabs tcode w (.slice a ts.length cap) ts) (hg : Glob w) (hwl : ∀ p ∈ ps, p.length ≤ 1048576)
    (hc1 : ∀ w, Calls Tryz.prog 87 #[.string s, .string ⟨#[32]⟩] w fun e w' => e = .returned (.int .i64 k1) ∧ w' = w)
    (hc2 : ∀ w, Calls Tryz.prog 87 #[.string s, .string ⟨#[59]⟩] w fun e w' => e = .returned (.int .i64 k2) ∧ w' = w)
    (hs : ∀ w1, Below w.heap.size w w1 → Calls Tryz.prog 89 #[.string s, .string ⟨#[59]⟩] w1 fun e w' => e = .returned (.slice (some ⟨w1.heap.size, 0, none⟩) ps.length ps.length) ∧ w' = w1.alloc (.cells (ps.map fun l => Value.string (bs l)).toArray 9)) :
    Calls Tryz.prog 59 #[.slice a ts.length cap, .string s] w fun e w' => LawAns w' (lawGo ts [] ps) e ∧ Below w.heap.size w w' := by
  have HG : Hid _ := hg
  have HW : Hid _ := hwl
  have HT : Hid _ := hts
  have HOK : Hid _ := hok
  clear hg hwl hts hok
  obtain ⟨R, HR⟩ : ∃ R, Hid (lawGo ts [] ps = R) := exHid _
  rw [HR.out]
  have hb0 : ∀ o, Below w.heap.size w (w.alloc o) := fun o => (Below.refl _ _).alloc (Nat.le_refl _) _
  go_enter Tryz.func59, Tryz.ntmps59
  go_wp2_with (first
    | (go_at_call 87; with_reducible refine (hc1 _).mono ?_; rintro e w' ⟨rfl, hw⟩; obtain rfl := hw.symm)
    | (go_at_call 87; with_reducible refine (hc2 _).mono ?_; rintro e w' ⟨rfl, hw⟩; obtain rfl := hw.symm)
    | (go_at_call 89; refine (hs _ (hb0 _)).mono ?_; rintro e w' ⟨rfl, rfl⟩))
  obtain ⟨w1, HW1⟩ : ∃ w1, Hid ((w.alloc (.cells #[.slice none 0 0, .slice none 0 0] 187)).alloc (.cells (ps.map fun l => Value.string (bs l)).toArray 9) = w1) := exHid _
  have hb1 : Below w.heap.size w w1 := by rw [← HW1.out]; exact ((Below.refl _ _).alloc (Nat.le_refl _) _).alloc (by simp) _
  have hz1 : w1.heap.size = w.heap.size + 2 := by rw [← HW1.out]; simp
  have HCP : Hid (w1.heap[w.heap.size + 1]? = some (.cells (ps.map fun l => Value.string (bs l)).toArray 9 (0, 0))) := Hid.mk (by
    rw [← HW1.out]
    have := heap_alloc_new (w.alloc (.cells #[.slice none 0 0, .slice none 0 0] 187)) (.cells (ps.map fun l => Value.string (bs l)).toArray 9)
    simpa using this)
  have HL0 : Hid (LawAt w1 w.heap.size (.slice none 0 0) (.slice none 0 0) 0 [] []) := Hid.mk (LawAt.new (by
    rw [← HW1.out]
    have h1 := heap_alloc_new w (.cells #[.slice none 0 0, .slice none 0 0] 187)
    exact (((Below.refl _ _).alloc (Nat.le_refl _) _ : Below _ _ ((w.alloc (.cells #[.slice none 0 0, .slice none 0 0] 187)).alloc (.cells (ps.map fun l => Value.string (bs l)).toArray 9))).block w.heap.size (by simp)).trans h1))
  rw [HW1.out]
  have HZ : Hid _ := hz1
  have HB1 : Hid _ := hb1
  clear hz1 hs hc1 hc2 hb0 hb1
  go_loopw [28] (fun i wr => ∃ (k na : Nat) (av mv : Value) (xs : List Value) (ms : List MRow), k ≤ ps.length ∧ i = .int .i64 k ∧ R = lawGo ts (ms.map keyM) (ps.drop k) ∧ na ≤ k ∧ ms.length ≤ k ∧ LawAt wr w.heap.size av mv na xs ms ∧ Kp w.heap.size w1 wr) (fun i _ => ps.length - (intOf i).toNat)
  case atStart => exact ⟨0, 0, _, _, [], [], Nat.zero_le _, rfl, HR.out.symm, Nat.le_refl _, Nat.le_refl _, HL0.out, ⟨Below.refl _ _, fun _ _ _ h => h⟩⟩
  case round =>
    obtain ⟨k, na, av, mv, xs, ms, hk, rfl, hgo, hna, hnm, hlaw, hkp⟩ := hrel
    have HGO : Hid _ := hgo
    have HL : Hid (LawAt wr w.heap.size av mv na xs ms) := Hid.mk hlaw
    have HK : Hid (Kp w.heap.size w1 wr) := Hid.mk hkp
    clear hgo hlaw hkp
    have hsz := HK.out.bel.size
    have hzz := HZ.out
    by_cases hlt : k < ps.length
    · obtain ⟨p, HP⟩ : ∃ p, Hid (ps[k] = p) := exHid _
      have hpw : p.length ≤ 1048576 := by rw [← HP.out]; exact HW.out _ (List.getElem_mem hlt)
      have hcp : wr.cell? ⟨w.heap.size + 1, k, none⟩ = some (.string (bs p)) := by
        rw [Lib.cell_of_heap (HK.out.str _ _ _ HCP.out)]
        simp [hlt, HP.out]
      have HD : Hid (R = lawGo ts (ms.map keyM) (p :: ps.drop (k + 1))) := Hid.mk (by rw [HGO.out, List.drop_eq_getElem_cons hlt, HP.out])
      have hBw : Below w.heap.size w wr := HB1.out.trans HK.out.bel
      have hgr := Glob.kept HG.out hBw
      have hsp := psplit_any (bs p) 32 wr (by simpa using (by omega : p.length ≤ 1048577)) hgr
      rw [bs_toList] at hsp
      have hwn := spl_length_le 32 p
      have hwm := spl_mem_length 32 p
      have hru := rule_new wr (.slice a ts.length cap) ts (spl 32 p) w.heap.size na av mv xs ms HOK.out hgr (ReadsTabs.below HT.out hBw) HL.out (by omega) (by omega) (by omega) (fun l hl => by have := hwm l hl; omega)
      have HBW : Hid (Below w.heap.size w wr) := Hid.mk hBw
      clear hgr hwm hBw
      cases hr : ruleK ts (ms.map keyM) (spl 32 p) with
      | none =>
        have hRN : Hid (R = false) := Hid.mk (by rw [HD.out]; exact lg_no hr)
        rw [hr] at hru
        clear hr
        obtain ⟨ws, HWS⟩ : ∃ ws, Hid (spl 32 p = ws) := exHid _
        rw [HWS.out] at hsp hru hwn
        go_wp2_with (first
          | (go_at_call 89; refine hsp.mono ?_; rintro e wa ⟨rfl, rfl⟩)
          | (go_at_call 103; refine hru.mono ?_; rintro e wb ⟨⟨te, pe, rfl, hE⟩, hkb⟩; have HE : Hid (Err wb 4 (.iface te pe)) := Hid.mk hE; clear hE))
        go_ret2
        rw [hRN.out]
        exact ⟨⟨_, _, rfl, HE.out.wrap' _ _ _ rfl⟩, (HBW.out.trans hkb.bel).alloc (by have := hkb.bel.size; omega) _⟩
      | some o =>
        match o with
        | none =>
          have HGOOD : Hid (R = lawGo ts (ms.map keyM) (ps.drop (k + 1))) := Hid.mk (by rw [HD.out]; exact lg_allow hr)
          rw [hr] at hru
          clear hr
          obtain ⟨ws, HWS⟩ : ∃ ws, Hid (spl 32 p = ws) := exHid _
          rw [HWS.out] at hsp hru hwn
          go_wp2_with (first
            | (go_at_call 89; refine hsp.mono ?_; rintro e wa ⟨rfl, rfl⟩)
            | (go_at_call 103; refine hru.mono ?_; rintro e wb ⟨⟨rfl, hE⟩, hkb⟩; have HE : Hid (∃ av mv xs, LawAt wb w.heap.size av mv (na + 1) xs ms) := Hid.mk hE; clear hE))
          go_roundw
          case rel =>
            obtain ⟨av', mv', xs', hL'⟩ := HE.out
            exact ⟨k + 1, na + 1, av', mv', xs', ms, by omega, by go_num, HGOOD.out, by omega, by omega, hL', HK.out.trans hkb⟩
          case measure => simp [intOf]; omega
        | some (t, c) =>
          have HGOOD : Hid (R = lawGo ts (ms.map keyM ++ [(t, c)]) (ps.drop (k + 1))) := Hid.mk (by rw [HD.out]; exact lg_mask hr)
          rw [hr] at hru
          clear hr
          obtain ⟨ws, HWS⟩ : ∃ ws, Hid (spl 32 p = ws) := exHid _
          rw [HWS.out] at hsp hru hwn
          go_wp2_with (first
            | (go_at_call 89; refine hsp.mono ?_; rintro e wa ⟨rfl, rfl⟩)
            | (go_at_call 103; refine hru.mono ?_; rintro e wb ⟨⟨rfl, hE⟩, hkb⟩; have HE : Hid (∃ av mv xs m, m.t = t ∧ m.c = c ∧ LawAt wb w.heap.size av mv na xs (ms ++ [m])) := Hid.mk hE; clear hE))
          go_roundw
          case rel =>
            obtain ⟨av', mv', xs', m, hmt, hmc, hL'⟩ := HE.out
            refine ⟨k + 1, na, av', mv', xs', ms ++ [m], by omega, by go_num, ?_, by omega, by simp; omega, hL', HK.out.trans hkb⟩
            rw [HGOOD.out]; simp [keyM, hmt, hmc]
          case measure => simp [intOf]; omega
    · have hd : ps.drop k = [] := List.drop_of_length_le (by omega)
      have hR : R = true := by rw [HGO.out, hd]; rfl
      have HRR : Hid _ := hR
      clear hR
      go_wp2
      go_ret2
      rw [HRR.out]
      exact ⟨⟨_, _, rfl, rfl⟩, HB1.out.trans HK.out.bel⟩
/-- THE PROGRAM's ReadLaw. -/
theorem readLaw_any (vs : Value) (ts : List (List UInt8 × List Bool)) (s : ByteArray) (w : World) (hok : TabsOk ts) (hts : ReadsTabs tcode w vs ts) (hg : Glob w) (hs : s.size ≤ 1048576) :
    Calls Tryz.prog 59 #[vs, .string s] w fun e w' => LawAns w' (lawP ts s.data.toList) e ∧ Below w.heap.size w w' := by
  obtain ⟨a, cap, rfl, _⟩ := id hts
  have hl2 : s.data.toList.length ≤ 1048576 := by simpa using hs
  have hc1 := fun w => pcount_any s 32 w
  have hc2 := fun w => pcount_any s 59 w
  have hn1 := List.count_le_length (a := (32 : UInt8)) (l := s.data.toList)
  have hn2 := List.count_le_length (a := (59 : UInt8)) (l := s.data.toList)
  have hlen := spl_length 59 s.data.toList
  have hmem := spl_mem_length 59 s.data.toList
  have htl : s.toList = s.data.toList := ByteArray.toList_eq s
  unfold lawP
  by_cases h0 : s.data.toList = []
  · have e : s = ByteArray.empty := by
      cases s with | mk d => simp at h0; subst h0; rfl
    subst e
    exact rl_empty a _ cap w
  · have h0' : s.data.toList.isEmpty = false := by simpa using h0
    rw [h0', Bool.false_or]
    by_cases h60 : s.data.toList.count 32 + s.data.toList.count 59 < 60
    · rw [decide_eq_true h60, Bool.true_and]
      exact rl_go a cap s w _ _ ts _ (by rw [htl]; exact h0') h60 hlen hok hts hg (fun p hp => Nat.le_trans (hmem p hp) hl2) hc1 hc2 fun w1 hb => psplit_any s 59 w1 (by omega) (hg.kept hb)
    · rw [decide_eq_false h60, Bool.false_and]
      exact rl_many a _ cap s w _ _ (by rw [htl]; exact h0') (by omega) (by omega) (by omega) hc1 hc2
end Go.Proofs.YtdnfhaojfdohdaaGreatDoor
namespace Go.Proofs.YtdnfhaojfdohdaaGreatDoor
open Go.RowKit

theorem tableOf_okL {p : List UInt8} {t : List UInt8 × List Bool} (h : tableOf p = some t) : 1 ≤ t.2.length ∧ t.2.length ≤ 5 ∧ isNameL t.1 = true := by
  unfold tableOf at h
  split at h
  · cases h
  · split at h
    · rename_i hc
      simp at hc
      cases h
      simp [hc]
    · cases h
theorem schemaGo_okL : ∀ (ps : List (List UInt8)) (acc ts : List (List UInt8 × List Bool)), (∀ t ∈ acc, 1 ≤ t.2.length ∧ t.2.length ≤ 5 ∧ isNameL t.1 = true) → schemaGo acc ps = some ts → ∀ t ∈ ts, 1 ≤ t.2.length ∧ t.2.length ≤ 5 ∧ isNameL t.1 = true := by
  intro ps
  induction ps with
  | nil => intro acc ts ha h; simp [schemaGo] at h; subst h; exact ha
  | cons p r ih =>
    intro acc ts ha h
    rw [schemaGo] at h
    split at h
    · cases h
    · rename_i t ht
      split at h
      · cases h
      · refine ih _ ts ?_ h
        intro x hx
        rcases List.mem_append.1 hx with hx | hx
        · exact ha x hx
        · simp at hx; subst hx; exact tableOf_okL ht
theorem schemaP_okL {l : List UInt8} {ts : List (List UInt8 × List Bool)} (h : schemaP l = some ts) : ts.length ≤ 6 ∧ ∀ t ∈ ts, 1 ≤ t.2.length ∧ t.2.length ≤ 5 ∧ isNameL t.1 = true := by
  unfold schemaP at h
  split at h
  · cases h
  · rename_i us hu
    split at h
    · cases h; exact ⟨by assumption, schemaGo_okL _ _ _ (by simp) hu⟩
    · cases h
theorem schemaP_tabs {l : List UInt8} {ts : List (List UInt8 × List Bool)} (h : schemaP l = some ts) : TabsOk ts := by
  obtain ⟨h1, h2⟩ := schemaP_okL h
  refine ⟨by omega, fun t => ?_, fun t ht e => ?_⟩
  · unfold typesOf
    by_cases hl : t < ts.length
    · have := (h2 ts[t] (List.getElem_mem hl)).2.1
      simp [List.getD, hl]; omega
    · simp [List.getD, List.getElem?_eq_none (Nat.le_of_not_lt hl)]
  · have := (h2 t ht).2.2
    rw [e] at this
    exact absurd this (by decide)

set_option maxRecDepth 10000 in
set_option maxHeartbeats 1000000 in
theorem pcl_schema (a b : ByteArray) (w : World) (n : Int)
    (h1 : Calls Tryz.prog 52 #[.string a] w fun e w' => ∃ v te pe, e = .returned (.tuple #[v, .iface te pe]) ∧ Below w.heap.size w w' ∧ Calls Tryz.prog 53 #[.iface te pe] w' fun ev w'' => ev = .returned (.int .i64 n) ∧ Below w'.heap.size w' w'') :
    Calls Tryz.prog 33 #[.string a, .string b] w fun e w' => e = .returned (.int .i64 n) ∧ Below w.heap.size w w' := by
  go_enter Tryz.func33, Tryz.ntmps33
  go_wp2_with (first
    | (go_at_call 52; refine h1.mono ?_; rintro e w1 ⟨v, te, pe, rfl, hb1, hc⟩)
    | (go_at_call 53; refine hc.mono ?_; rintro e w2 ⟨rfl, hb2⟩))
  go_ret
  exact ⟨rfl, hb1.trans (hb2.mono hb1.size)⟩
set_option maxRecDepth 10000 in
set_option maxHeartbeats 1000000 in
theorem pcl_law (a b : ByteArray) (w : World) (n : Int) (P : World → Value → Prop)
    (h1 : Calls Tryz.prog 52 #[.string a] w fun e w' => ∃ v, e = .returned (.tuple #[v, .nilIface]) ∧ P w' v ∧ Below w.heap.size w w')
    (h2 : ∀ w1 v, P w1 v → Below w.heap.size w w1 → Calls Tryz.prog 59 #[v, .string b] w1 fun e w' => ∃ v ev, e = .returned (.tuple #[v, ev]) ∧ Below w1.heap.size w1 w' ∧ Calls Tryz.prog 53 #[ev] w' fun er w'' => er = .returned (.int .i64 n) ∧ Below w'.heap.size w' w'') :
    Calls Tryz.prog 33 #[.string a, .string b] w fun e w' => e = .returned (.int .i64 n) ∧ Below w.heap.size w w' := by
  go_enter Tryz.func33, Tryz.ntmps33
  go_wp2_with (first
    | (go_at_call 52; refine h1.mono ?_; rintro e w1 ⟨v, rfl, hP, hb1⟩)
    | (go_at_call 59; refine (h2 _ _ hP hb1).mono ?_; rintro e w2 ⟨v2, ev, rfl, hb2, hc⟩)
    | (go_at_call 53; refine hc.mono ?_; rintro e w3 ⟨rfl, hb3⟩))
  go_ret
  exact ⟨rfl, (hb1.trans (hb2.mono hb1.size)).trans (hb3.mono (Nat.le_trans hb1.size hb2.size))⟩

/-- What CheckLaw answers. -/
def lawNum (a b : List UInt8) : Int :=
  match schemaP a with
  | none => 1
  | some ts => match lawP ts b with
    | true => 0
    | false => 4
/-- THE PROGRAM's CheckLaw. -/
theorem checkLaw_any (a b : ByteArray) (w : World) (ha : a.size ≤ 1048576) (hb : b.size ≤ 1048576) (hg : Glob w) :
    Calls Tryz.prog 33 #[.string a, .string b] w fun e w' => e = .returned (.int .i64 (lawNum a.data.toList b.data.toList)) ∧ Below w.heap.size w w' := by
  have h1 := readSchema_any a w ha hg
  unfold lawNum
  cases hs : schemaP a.data.toList with
  | none =>
    rw [hs] at h1
    refine pcl_schema a b w 1 (h1.mono ?_)
    rintro e w' ⟨⟨v, ev, rfl, hE⟩, hb'⟩
    have hE' : Err w' 1 ev := hE
    obtain ⟨te, pe, rfl⟩ := hE'.form
    exact ⟨v, te, pe, rfl, hb', errnoOf_err 1 _ w' hE' (hg.kept hb')⟩
  | some ts =>
    rw [hs] at h1
    refine pcl_law a b w _ (fun w1 v => ReadsTabs tcode w1 v ts) (h1.mono ?_) ?_
    · rintro e w' ⟨⟨v, ev, rfl, hE, hR⟩, hb'⟩
      have : ev = .nilIface := hE
      subst this
      exact ⟨v, rfl, hR, hb'⟩
    · intro w1 v hv hb1
      have hg1 := hg.kept hb1
      refine (readLaw_any v ts b w1 (schemaP_tabs hs) hv hg1 hb).mono ?_
      rintro e w' ⟨⟨v2, ev, rfl, hE⟩, hb2⟩
      refine ⟨v2, ev, rfl, hb2, ?_⟩
      cases hl : lawP ts b.data.toList with
      | true =>
        rw [hl] at hE
        have : ev = .nilIface := hE
        subst this
        simp only [hl]
        exact errnoOf_nil w'
      | false =>
        rw [hl] at hE
        simp only [hl]
        exact errnoOf_err 4 _ w' hE (hg1.kept hb2)
end Go.Proofs.YtdnfhaojfdohdaaGreatDoor
