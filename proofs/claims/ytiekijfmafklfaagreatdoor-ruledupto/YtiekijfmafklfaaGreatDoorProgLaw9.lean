import Derived.Test.YtiekijfmafklfaaGreatDoorProgLaw8
namespace Go.Proofs.YtiekijfmafklfaaGreatDoor
open Go.RowKit

theorem lg_no {ts : List (List UInt8 × List Bool)} {ks : List (Nat × Nat)} {p : List UInt8} {r : List (List UInt8)} (h : ruleK ts ks (spl 32 p) = none) : lawGo ts ks (p :: r) = false := by simp [lawGo, h]
theorem lg_allow {ts : List (List UInt8 × List Bool)} {ks : List (Nat × Nat)} {p : List UInt8} {r : List (List UInt8)} (h : ruleK ts ks (spl 32 p) = some none) : lawGo ts ks (p :: r) = lawGo ts ks r := by simp [lawGo, h]
theorem lg_mask {ts : List (List UInt8 × List Bool)} {ks : List (Nat × Nat)} {p : List UInt8} {r : List (List UInt8)} {k : Nat × Nat} (h : ruleK ts ks (spl 32 p) = some (some k)) : lawGo ts ks (p :: r) = lawGo ts (ks ++ [k]) r := by simp [lawGo, h]

set_option maxRecDepth 10000 in
set_option maxHeartbeats 4000000 in
theorem rl_go (a : Option Addr) (cap : Nat) (s : ByteArray) (w : World) (k1 k2 : Nat) (ts : List (List UInt8 × List Bool)) (ps : List (List UInt8)) (he : s.toList.isEmpty = false) (h60 : k1 + k2 < 60) (hpl : ps.length = k2 + 1) (hok : TabsOk ts) (hts : ReadsTabs tcode w (.slice a ts.length cap) ts) (hg : Glob w) (hwl : ∀ p ∈ ps, p.length ≤ 1048576)
    (hc1 : ∀ w, Calls Tryz.prog 21 #[.string s, .string ⟨#[32]⟩] w fun e w' => e = .returned (.int .i64 k1) ∧ w' = w)
    (hc2 : ∀ w, Calls Tryz.prog 21 #[.string s, .string ⟨#[59]⟩] w fun e w' => e = .returned (.int .i64 k2) ∧ w' = w)
    (hs : ∀ w1, Below w.heap.size w w1 → Calls Tryz.prog 23 #[.string s, .string ⟨#[59]⟩] w1 fun e w' => e = .returned (.slice (some ⟨w1.heap.size, 0, none⟩) ps.length ps.length) ∧ w' = w1.alloc (.cells (ps.map fun l => Value.string (bs l)).toArray 9)) :
    Calls Tryz.prog 19 #[.slice a ts.length cap, .string s] w fun e w' => LawAns w' (lawGo ts [] ps) e ∧ Below w.heap.size w w' := by
  have HG : Hid _ := hg
  have HW : Hid _ := hwl
  have HT : Hid _ := hts
  have HOK : Hid _ := hok
  clear hg hwl hts hok
  obtain ⟨R, HR⟩ : ∃ R, Hid (lawGo ts [] ps = R) := exHid _
  rw [HR.out]
  have hb0 : ∀ o, Below w.heap.size w (w.alloc o) := fun o => (Below.refl _ _).alloc (Nat.le_refl _) _
  go_enter Tryz.func19, Tryz.ntmps19
  go_wp2_with (first
    | (go_at_call 21; with_reducible refine (hc1 _).mono ?_; rintro e w' ⟨rfl, hw⟩; obtain rfl := hw.symm)
    | (go_at_call 21; with_reducible refine (hc2 _).mono ?_; rintro e w' ⟨rfl, hw⟩; obtain rfl := hw.symm)
    | (go_at_call 23; refine (hs _ (hb0 _)).mono ?_; rintro e w' ⟨rfl, rfl⟩))
  obtain ⟨w1, HW1⟩ : ∃ w1, Hid ((w.alloc (.cells #[.slice none 0 0, .slice none 0 0] 95)).alloc (.cells (ps.map fun l => Value.string (bs l)).toArray 9) = w1) := exHid _
  have hb1 : Below w.heap.size w w1 := by rw [← HW1.out]; exact ((Below.refl _ _).alloc (Nat.le_refl _) _).alloc (by simp) _
  have hz1 : w1.heap.size = w.heap.size + 2 := by rw [← HW1.out]; simp
  have HCP : Hid (w1.heap[w.heap.size + 1]? = some (.cells (ps.map fun l => Value.string (bs l)).toArray 9 (0, 0))) := Hid.mk (by
    rw [← HW1.out]
    have := heap_alloc_new (w.alloc (.cells #[.slice none 0 0, .slice none 0 0] 95)) (.cells (ps.map fun l => Value.string (bs l)).toArray 9)
    simpa using this)
  have HL0 : Hid (LawAt w1 w.heap.size (.slice none 0 0) (.slice none 0 0) 0 [] []) := Hid.mk (LawAt.new (by
    rw [← HW1.out]
    have h1 := heap_alloc_new w (.cells #[.slice none 0 0, .slice none 0 0] 95)
    exact (((Below.refl _ _).alloc (Nat.le_refl _) _ : Below _ _ ((w.alloc (.cells #[.slice none 0 0, .slice none 0 0] 95)).alloc (.cells (ps.map fun l => Value.string (bs l)).toArray 9))).block w.heap.size (by simp)).trans h1))
  rw [HW1.out]
  have HZ : Hid _ := hz1
  have HB1 : Hid _ := hb1
  clear hz1 hs hc1 hc2 hb0 hb1
  go_loopw [28] (fun i wr => ∃ (k na : Nat) (av mv : Value) (xs : List Value) (ms : List MRow), k ≤ ps.length ∧ i = .int .i64 k ∧ R = lawGo ts (ms.map keyM) (ps.drop k) ∧ na ≤ k ∧ ms.length ≤ k ∧ LawAt wr w.heap.size av mv na xs ms ∧ Kp w.heap.size w1 wr) (fun i _ => ps.length - (intOf i).toNat)
  case atStart => exact ⟨0, 0, _, _, [], [], Nat.zero_le _, rfl, HR.out.symm, Nat.le_refl _, Nat.le_refl _, HL0.out, ⟨Below.refl _ _, fun _ _ _ h => h⟩⟩
  case round =>
    obtain ⟨k, na, av, mv, xs, ms, hk, rfl, hgo, hna, hnm, hlaw, hkp⟩ := hrel
    have HGO : Hid _ := hgo
    have HL : Hid (LawAt wr w.heap.size av mv na xs ms) := Hid.mk hlaw
    have HK : Hid (Kp w.heap.size w1 wr) := Hid.mk hkp
    clear hgo hlaw hkp
    have hsz := HK.out.bel.size
    have hzz := HZ.out
    by_cases hlt : k < ps.length
    · obtain ⟨p, HP⟩ : ∃ p, Hid (ps[k] = p) := exHid _
      have hpw : p.length ≤ 1048576 := by rw [← HP.out]; exact HW.out _ (List.getElem_mem hlt)
      have hcp : wr.cell? ⟨w.heap.size + 1, k, none⟩ = some (.string (bs p)) := by
        rw [Lib.cell_of_heap (HK.out.str _ _ _ HCP.out)]
        simp [hlt, HP.out]
      have HD : Hid (R = lawGo ts (ms.map keyM) (p :: ps.drop (k + 1))) := Hid.mk (by rw [HGO.out, List.drop_eq_getElem_cons hlt, HP.out])
      have hBw : Below w.heap.size w wr := HB1.out.trans HK.out.bel
      have hgr := Glob.kept HG.out hBw
      have hsp := psplit_any (bs p) 32 wr (by simpa using (by omega : p.length ≤ 1048577)) hgr
      rw [bs_toList] at hsp
      have hwn := spl_length_le 32 p
      have hwm := spl_mem_length 32 p
      have hru := rule_new wr (.slice a ts.length cap) ts (spl 32 p) w.heap.size na av mv xs ms HOK.out hgr (ReadsTabs.below HT.out hBw) HL.out (by omega) (by omega) (by omega) (fun l hl => by have := hwm l hl; omega)
      have HBW : Hid (Below w.heap.size w wr) := Hid.mk hBw
      clear hgr hwm hBw
      cases hr : ruleK ts (ms.map keyM) (spl 32 p) with
      | none =>
        have hRN : Hid (R = false) := Hid.mk (by rw [HD.out]; exact lg_no hr)
        rw [hr] at hru
        clear hr
        obtain ⟨ws, HWS⟩ : ∃ ws, Hid (spl 32 p = ws) := exHid _
        rw [HWS.out] at hsp hru hwn
        go_wp2_with (first
          | (go_at_call 23; refine hsp.mono ?_; rintro e wa ⟨rfl, rfl⟩)
          | (go_at_call 37; refine hru.mono ?_; rintro e wb ⟨⟨te, pe, rfl, hE⟩, hkb⟩; have HE : Hid (Err wb 4 (.iface te pe)) := Hid.mk hE; clear hE))
        go_ret2
        rw [hRN.out]
        exact ⟨⟨_, _, rfl, HE.out.wrap' _ _ _ rfl⟩, (HBW.out.trans hkb.bel).alloc (by have := hkb.bel.size; omega) _⟩
      | some o =>
        match o with
        | none =>
          have HGOOD : Hid (R = lawGo ts (ms.map keyM) (ps.drop (k + 1))) := Hid.mk (by rw [HD.out]; exact lg_allow hr)
          rw [hr] at hru
          clear hr
          obtain ⟨ws, HWS⟩ : ∃ ws, Hid (spl 32 p = ws) := exHid _
          rw [HWS.out] at hsp hru hwn
          go_wp2_with (first
            | (go_at_call 23; refine hsp.mono ?_; rintro e wa ⟨rfl, rfl⟩)
            | (go_at_call 37; refine hru.mono ?_; rintro e wb ⟨⟨rfl, hE⟩, hkb⟩; have HE : Hid (∃ av mv xs, LawAt wb w.heap.size av mv (na + 1) xs ms) := Hid.mk hE; clear hE))
          go_roundw
          case rel =>
            obtain ⟨av', mv', xs', hL'⟩ := HE.out
            exact ⟨k + 1, na + 1, av', mv', xs', ms, by omega, by go_num, HGOOD.out, by omega, by omega, hL', HK.out.trans hkb⟩
          case measure => simp [intOf]; omega
        | some (t, c) =>
          have HGOOD : Hid (R = lawGo ts (ms.map keyM ++ [(t, c)]) (ps.drop (k + 1))) := Hid.mk (by rw [HD.out]; exact lg_mask hr)
          rw [hr] at hru
          clear hr
          obtain ⟨ws, HWS⟩ : ∃ ws, Hid (spl 32 p = ws) := exHid _
          rw [HWS.out] at hsp hru hwn
          go_wp2_with (first
            | (go_at_call 23; refine hsp.mono ?_; rintro e wa ⟨rfl, rfl⟩)
            | (go_at_call 37; refine hru.mono ?_; rintro e wb ⟨⟨rfl, hE⟩, hkb⟩; have HE : Hid (∃ av mv xs m, m.t = t ∧ m.c = c ∧ LawAt wb w.heap.size av mv na xs (ms ++ [m])) := Hid.mk hE; clear hE))
          go_roundw
          case rel =>
            obtain ⟨av', mv', xs', m, hmt, hmc, hL'⟩ := HE.out
            refine ⟨k + 1, na, av', mv', xs', ms ++ [m], by omega, by go_num, ?_, by omega, by simp; omega, hL', HK.out.trans hkb⟩
            rw [HGOOD.out]; simp [keyM, hmt, hmc]
          case measure => simp [intOf]; omega
    · have hd : ps.drop k = [] := List.drop_of_length_le (by omega)
      have hR : R = true := by rw [HGO.out, hd]; rfl
      have HRR : Hid _ := hR
      clear hR
      go_wp2
      go_ret2
      rw [HRR.out]
      exact ⟨⟨_, _, rfl, rfl⟩, HB1.out.trans HK.out.bel⟩
/-- THE PROGRAM's ReadLaw. -/
theorem readLaw_any (vs : Value) (ts : List (List UInt8 × List Bool)) (s : ByteArray) (w : World) (hok : TabsOk ts) (hts : ReadsTabs tcode w vs ts) (hg : Glob w) (hs : s.size ≤ 1048576) :
    Calls Tryz.prog 19 #[vs, .string s] w fun e w' => LawAns w' (lawP ts s.data.toList) e ∧ Below w.heap.size w w' := by
  obtain ⟨a, cap, rfl, _⟩ := id hts
  have hl2 : s.data.toList.length ≤ 1048576 := by simpa using hs
  have hc1 := fun w => pcount_any s 32 w
  have hc2 := fun w => pcount_any s 59 w
  have hn1 := List.count_le_length (a := (32 : UInt8)) (l := s.data.toList)
  have hn2 := List.count_le_length (a := (59 : UInt8)) (l := s.data.toList)
  have hlen := spl_length 59 s.data.toList
  have hmem := spl_mem_length 59 s.data.toList
  have htl : s.toList = s.data.toList := ByteArray.toList_eq s
  unfold lawP
  by_cases h0 : s.data.toList = []
  · have e : s = ByteArray.empty := by
      cases s with | mk d => simp at h0; subst h0; rfl
    subst e
    exact rl_empty a _ cap w
  · have h0' : s.data.toList.isEmpty = false := by simpa using h0
    rw [h0', Bool.false_or]
    by_cases h60 : s.data.toList.count 32 + s.data.toList.count 59 < 60
    · rw [decide_eq_true h60, Bool.true_and]
      exact rl_go a cap s w _ _ ts _ (by rw [htl]; exact h0') h60 hlen hok hts hg (fun p hp => Nat.le_trans (hmem p hp) hl2) hc1 hc2 fun w1 hb => psplit_any s 59 w1 (by omega) (hg.kept hb)
    · rw [decide_eq_false h60, Bool.false_and]
      exact rl_many a _ cap s w _ _ (by rw [htl]; exact h0') (by omega) (by omega) (by omega) hc1 hc2
end Go.Proofs.YtiekijfmafklfaaGreatDoor
