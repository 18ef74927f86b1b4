import Derived.Test.YtnpjldffciociaaGreatDoorC10
import Derived.LoopN
import Derived.Lib.AppendZeros
namespace Go.Proofs.YtnpjldffciociaaGreatDoor
open Go.RowKit

abbrev iv (x : Int) : Value := .int .i64 x

set_option maxRecDepth 10000 in
set_option maxHeartbeats 1000000 in
theorem pSlEqual (v v' : Value) (xs ys : List Int) (w : World) (hv : Reads w v (xs.map iv)) (hv' : Reads w v' (ys.map iv)) (_hl : xs.length ≤ 1048577) (_hl' : ys.length ≤ 1048577) :
    Calls Tryz.prog 250 #[v, v'] w fun e w' => e = .returned (.bool (xs == ys)) ∧ ∃ n, w' = w.drewN n := by
  obtain ⟨a, cap, rfl, hcell⟩ := hv
  obtain ⟨a', cap', rfl, hcell'⟩ := hv'
  rw [List.length_map, List.length_map]
  have H1 : Hid _ := hcell
  have H2 : Hid _ := hcell'
  clear hcell hcell'
  by_cases hlen : xs.length = ys.length
  · rw [hlen]
    go_enter Tryz.func250, Tryz.ntmps250
    go_wp2
    go_loopw [13] (fun i wr => ∃ (k n : Nat), k ≤ ys.length ∧ i = .int .i64 k ∧ wr = w.drewN n ∧ xs.take k = ys.take k) (fun i _ => ys.length - (intOf i).toNat)
    case atStart => exact ⟨0, 0, Nat.zero_le _, rfl, rfl, rfl⟩
    case round =>
      obtain ⟨k, n, hk, rfl, rfl, hsame⟩ := hrel
      have HN : Hid (xs.take k = ys.take k) := hsame
      clear hsame
      by_cases hlt : k < ys.length
      · obtain ⟨b, off, rfl, hbl, hc1⟩ := H1.out k (iv (xs[k]'(by omega))) (by simp [show k < xs.length by omega])
        obtain ⟨b', off', rfl, hbl', hc2⟩ := H2.out k (iv (ys[k])) (by simp [hlt])
        have hlti : (k : Int) < (ys.length : Int) := by omega
        generalize hx : xs[k]'(by omega) = x at hc1
        generalize hy : ys[k] = y at hc2
        have HX : Hid _ := hx
        have HY : Hid _ := hy
        clear hx hy
        by_cases hxy : x = y
        · subst hxy
          go_wp2
          go_quiet (fail)
          go_wp2
          go_roundw
          case rel =>
            refine ⟨k + 1, n + nq, by omega, by go_num, by first | rfl | simp, ?_⟩
            rw [List.take_succ_eq_append_getElem (by omega), List.take_succ_eq_append_getElem hlt, HX.out, HY.out, HN.out]
          case measure => simp [intOf]; omega
        · have hne : decide (x = y) = false := decide_eq_false hxy
          go_wp2
          go_quiet (fail)
          go_wp2
          go_ret
          refine ⟨ret_bool ?_, n + nq, by first | rfl | simp⟩
          symm
          rw [beq_eq_false_iff_ne]
          intro h
          subst h
          exact hxy (HX.out.symm.trans HY.out)
      · go_wp2
        go_ret
        refine ⟨ret_bool ?_, n, rfl⟩
        have := HN.out
        rw [List.take_of_length_le (by omega), List.take_of_length_le (by omega)] at this
        simp [this]
  · have hne : (xs == ys) = false := by
      rw [beq_eq_false_iff_ne]; intro h; exact hlen (by rw [h])
    rw [hne]
    go_enter Tryz.func250, Tryz.ntmps250
    go_wp2
    go_ret
    exact ⟨rfl, 0, rfl⟩

/-- Where a number stands first. -/
def idxI (x : Int) (xs : List Int) : Int := idxOf (xs.findIdx? (· == x))

set_option maxRecDepth 10000 in
set_option maxHeartbeats 1000000 in
theorem pSlContains (v : Value) (x : Int) (xs : List Int) (w : World) (hv : Reads w v (xs.map iv)) (_hl : xs.length ≤ 1048577) :
    Calls Tryz.prog 332 #[v, .int .i64 x] w fun e w' => (∃ r : Int, e = .returned (.int .i64 r) ∧ (decide (0 ≤ r) = xs.contains x)) ∧ ∃ n, w' = w.drewN n := by
  obtain ⟨a, cap, rfl, hcell⟩ := hv
  rw [List.length_map]
  have H1 : Hid _ := hcell
  clear hcell
  go_enter Tryz.func332, Tryz.ntmps332
  go_wp2
  go_loopw [8] (fun i wr => ∃ (k n : Nat), k ≤ xs.length ∧ i = .int .i64 k ∧ wr = w.drewN n ∧ x ∉ xs.take k) (fun i _ => xs.length - (intOf i).toNat)
  case atStart => exact ⟨0, 0, Nat.zero_le _, rfl, rfl, by simp⟩
  case round =>
    obtain ⟨k, n, hk, rfl, rfl, hno⟩ := hrel
    have HN : Hid (x ∉ xs.take k) := hno
    clear hno
    by_cases hlt : k < xs.length
    · obtain ⟨b, off, rfl, hbl, hc1⟩ := H1.out k (iv xs[k]) (by simp [hlt])
      have hlti : (k : Int) < (xs.length : Int) := by omega
      generalize hx : xs[k] = y at hc1
      have HX : Hid _ := hx
      clear hx
      by_cases hxy : x = y
      · subst hxy
        go_wp2
        go_ret
        refine ⟨⟨_, rfl, ?_⟩, n, rfl⟩
        have hm : x ∈ xs := by rw [← HX.out]; exact List.getElem_mem hlt
        rw [List.contains_iff_mem.2 hm]
        simp
      · have hne : decide (x = y) = false := decide_eq_false hxy
        go_wp2
        go_roundw
        case rel =>
          refine ⟨k + 1, n, by omega, by go_num, rfl, ?_⟩
          rw [List.take_succ_eq_append_getElem hlt, HX.out, List.mem_append]
          rintro (h | h)
          · exact HN.out h
          · simp at h; exact hxy h
        case measure => simp [intOf]; omega
    · go_wp2
      go_ret
      refine ⟨⟨_, rfl, ?_⟩, n, rfl⟩
      have := HN.out
      rw [List.take_of_length_le (by omega)] at this
      symm
      simpa using this
end Go.Proofs.YtnpjldffciociaaGreatDoor
namespace Go.Proofs.YtnpjldffciociaaGreatDoor
open Go.RowKit

set_option maxRecDepth 10000 in
set_option maxHeartbeats 1000000 in
theorem pSlHas (v : Value) (x : Int) (xs : List Int) (w : World) (hv : Reads w v (xs.map iv)) (hl : xs.length ≤ 1048577) :
    Calls Tryz.prog 290 #[v, .int .i64 x] w fun e w' => e = .returned (.bool (xs.contains x)) ∧ ∃ n, w' = w.drewN n := by
  have h := pSlContains v x xs w hv hl
  go_enter Tryz.func290, Tryz.ntmps290
  go_wp2_with (go_at_call 332; refine h.mono ?_; rintro e w1 ⟨⟨r, rfl, hr⟩, n, rfl⟩)
  go_ret
  exact ⟨ret_bool (by simp), n, rfl⟩

set_option maxRecDepth 10000 in
set_option maxHeartbeats 1000000 in
theorem pco_cols (rb : Nat) (w : World) (R : Value → World → Prop)
    (h1 : Calls Tryz.prog 289 #[.pointer (some ⟨rb, 0, none⟩)] w fun e w' => ∃ te pe, e = .returned (.tuple #[.slice none 0 0, .iface te pe]) ∧ R (.iface te pe) w') :
    Calls Tryz.prog 245 #[.pointer (some ⟨rb, 0, none⟩)] w fun e w' => ∃ te pe, e = .returned (.tuple #[.slice none 0 0, .pointer none, .slice none 0 0, .iface te pe]) ∧ R (.iface te pe) w' := by
  go_enter Tryz.func245, Tryz.ntmps245
  go_wp2_with (go_at_call 289; refine h1.mono ?_; rintro e w1 ⟨te, pe, rfl, hR⟩)
  refine bodyPost_ret (v := .tuple #[.slice none 0 0, .pointer none, .slice none 0 0, .iface te pe]) (by simp [results, Tryz.results245, go_sem]) rfl ?_
  exact ⟨te, pe, rfl, hR⟩
set_option maxRecDepth 10000 in
set_option maxHeartbeats 1000000 in
theorem pco_view (rb : Nat) (w : World) (P1 : Value → World → Prop) (R : Value → World → Prop)
    (h1 : Calls Tryz.prog 289 #[.pointer (some ⟨rb, 0, none⟩)] w fun e w' => ∃ u, e = .returned (.tuple #[u, .nilIface]) ∧ P1 u w')
    (h2 : ∀ u w1, P1 u w1 → Calls Tryz.prog 99 #[.pointer (some ⟨rb, 0, none⟩)] w1 fun e w' => ∃ te pe, e = .returned (.tuple #[.pointer none, .iface te pe]) ∧ R (.iface te pe) w') :
    Calls Tryz.prog 245 #[.pointer (some ⟨rb, 0, none⟩)] w fun e w' => ∃ te pe, e = .returned (.tuple #[.slice none 0 0, .pointer none, .slice none 0 0, .iface te pe]) ∧ R (.iface te pe) w' := by
  go_enter Tryz.func245, Tryz.ntmps245
  go_wp2_with (first
    | (go_at_call 289; refine h1.mono ?_; rintro e w1 ⟨u, rfl, hP⟩)
    | (go_at_call 99; refine (h2 _ _ hP).mono ?_; rintro e w2 ⟨te, pe, rfl, hR⟩))
  refine bodyPost_ret (v := .tuple #[.slice none 0 0, .pointer none, .slice none 0 0, .iface te pe]) (by simp [results, Tryz.results245, go_sem]) rfl ?_
  exact ⟨te, pe, rfl, hR⟩

/-- What 'columnsOver' makes: the types of the columns, in a row of its own, and whether all columns are there. -/
def OverAns (w2 : World) (errno : Int) (cs : List Nat) (a : List Bool) (u : Value) (b : Nat) (e : Ending) (w' : World) : Prop :=
  (((cs.map (typeNum a)).contains 0 = false ∧ ∃ tv, e = .returned (.tuple #[u, .pointer (some ⟨b, 0, none⟩), tv, .nilIface]) ∧ w'.ownsRow w2.heap.size 185 1 tv cs.length ((cs.map (typeNum a)).map iv)) ∨
    ((cs.map (typeNum a)).contains 0 = true ∧ ∃ te pe, e = .returned (.tuple #[.slice none 0 0, .pointer none, .slice none 0 0, .iface te pe]) ∧ Err w' errno (.iface te pe))) ∧ Below w2.heap.size w2 w'

set_option maxRecDepth 10000 in
set_option maxHeartbeats 4000000 in
theorem pco_go (rb : Nat) (w : World) (cs : List Nat) (a : List Bool) (errno : Int) (P1 : Value → World → Prop) (P2 : Value → Nat → World → Prop) (hcl : cs.length ≤ 1048577) (hal : a.length ≤ 1048577) (hcm : ∀ c ∈ cs, c ≤ 1048577)
    (h1 : Calls Tryz.prog 289 #[.pointer (some ⟨rb, 0, none⟩)] w fun e w' => ∃ u, e = .returned (.tuple #[u, .nilIface]) ∧ P1 u w')
    (h2 : ∀ u w1, P1 u w1 → Calls Tryz.prog 99 #[.pointer (some ⟨rb, 0, none⟩)] w1 fun e w' => ∃ b tv, e = .returned (.tuple #[.pointer (some ⟨b, 0, none⟩), .nilIface]) ∧ w'.cell? ⟨b, 6, none⟩ = some tv ∧ Reads w' u (cs.map i64v) ∧ Reads w' tv (a.map tcode) ∧ b < w'.heap.size ∧ P2 u b w')
    (hf : ∀ u b w1 w2 s, P2 u b w1 → Below w1.heap.size w1 w2 → Calls Tryz.prog 98 #[.pointer (some ⟨rb, 0, none⟩), .string s] w2 fun e w' => ∃ te pe, e = .returned (.iface te pe) ∧ Err w' errno (.iface te pe) ∧ Below w2.heap.size w2 w') :
    Calls Tryz.prog 245 #[.pointer (some ⟨rb, 0, none⟩)] w fun e w' => ∃ u b w2, P2 u b w2 ∧ OverAns w2 errno cs a u b e w' := by
  obtain ⟨i0, hi0, hz0, hz1, hz2⟩ := info_parts Tryz.infoType
  go_enter Tryz.func245, Tryz.ntmps245
  go_wp2_with (first
    | (go_at_call 289; refine h1.mono ?_; rintro e w1 ⟨u, rfl, hP⟩)
    | (go_at_call 99; refine (h2 _ _ hP).mono ?_; rintro e w2 ⟨b, tv, rfl, k6, hru, hrt, hb2, hP2⟩; obtain ⟨ua, uc, rfl, hcu⟩ := hru; have HU := hidR hcu; clear hcu; have HT := hidR hrt; clear hrt)
    | (at_make; refine wpList_make_full _ rfl _ _ 111 rfl w2.heap.size 185 i0 _ 1 Tryz.underlying111 hi0 hz0 hz1 _ _ _ _ cs.length rfl rfl (by simp) (by simp) (by rw [hz2]; omega) (by unfold maxLen; omega) (Nat.le_refl _) ?_; intro w3 hown3 hgrow3))
  have hb3 : Below w2.heap.size w2 w3 := (Below.refl _ _).grown hgrow3 (Nat.le_refl _) (by intro k hk; cases hk)
  clear hgrow3
  go_loopw [33] (fun i wr => ∃ (k : Nat) (R : List Value), k ≤ cs.length ∧ i = .int .i64 k ∧ R.length = cs.length ∧ R.take k = ((cs.take k).map (typeNum a)).map iv ∧ wr.ownsRow w2.heap.size 185 1 (.slice (some ⟨w2.heap.size, 0, none⟩) cs.length cs.length) cs.length R ∧ Below w2.heap.size w2 wr) (fun i _ => cs.length - (intOf i).toNat)
  case atStart =>
    refine ⟨0, _, Nat.zero_le _, rfl, ?_, rfl, hown3, hb3⟩
    have := hown3.1
    simpa using this
  case round =>
    obtain ⟨k, R, hk, rfl, hRl, hRt, hown, hbel⟩ := hrel
    have HR : Hid _ := hRt
    have HRl : Hid _ := hRl
    clear hRt hRl hown3
    have hsz := hbel.size
    by_cases hlt : k < cs.length
    · obtain ⟨x, HX⟩ : ∃ x, Hid (cs[k] = x) := exHid _
      obtain ⟨ub, uoff, rfl, hub, hcu⟩ := HU.out k (i64v x) (by simp [hlt, HX.out])
      have hcu' : wr.cell? ⟨ub, uoff + k, none⟩ = some (.int .i64 x) := (hbel.cell (p := ⟨ub, uoff + k, none⟩) hub).trans hcu
      have k6' : wr.cell? ⟨b, 6, none⟩ = some tv := (hbel.cell (p := ⟨b, 6, none⟩) hb2).trans k6
      have hta := ptypeAt_any wr tv a x (HT.out.below hbel) hal (hcm x (by rw [← HX.out]; exact List.getElem_mem hlt))
      have hst := hown.stored k (iv (typeNum a x))
      have hfz := hown.frozenAt k
      have hce := hown.cellAt k (by omega)
      have hRk : R[k]? = some (R[k]'(by rw [HRl.out]; exact hlt)) := List.getElem?_eq_getElem _
      rw [hRk] at hce
      have HS : Hid _ := hst.1
      clear hst hown hRk k6 hcu
      generalize R[k]'(by rw [HRl.out]; exact hlt) = old at hce
      go_wp2_with (go_at_call 212; refine hta.mono ?_; rintro e w' ⟨rfl, hw⟩; obtain rfl := hw.symm)
      go_roundw
      case rel =>
        refine ⟨k + 1, R.set k (iv (typeNum a x)), by omega, by go_num, by simp [HRl.out], ?_, HS.out, hbel.setCell (by simp) _⟩
        rw [take_set_step R k _ (by rw [HRl.out]; exact hlt) _ HR.out, List.take_succ_eq_append_getElem hlt, List.map_append, List.map_append, HX.out]
        rfl
      case measure => simp [intOf]; omega
    · have hR2 : R = (cs.map (typeNum a)).map iv := by
        have := HR.out
        rwa [List.take_of_length_le (by rw [HRl.out]; omega), List.take_of_length_le (by omega)] at this
      subst hR2
      have hhas := pSlHas _ 0 (cs.map (typeNum a)) wr (Reads.of_owns hown) (by simpa using hcl)
      have HO : Hid _ := hown
      clear hown
      cases hz : (cs.map (typeNum a)).contains 0 with
      | false =>
        rw [hz] at hhas
        go_wp2_with (go_at_call 290; refine hhas.mono ?_; rintro e w4 ⟨rfl, n, rfl⟩)
        refine bodyPost_ret (v := .tuple #[.slice ua (cs.map i64v).length uc, .pointer (some ⟨b, 0, none⟩), .slice (some ⟨w2.heap.size, 0, none⟩) cs.length cs.length, .nilIface]) (by simp [results, Tryz.results245, go_sem]) rfl ?_
        exact ⟨_, _, w2, hP2, .inl ⟨hz, _, rfl, HO.out⟩, belowN hbel n⟩
      | true =>
        rw [hz] at hhas
        have hf' := fun n s => hf _ _ _ (wr.drewN n) s hP2 (belowN hbel n)
        go_wp2_with (first
          | (go_at_call 290; refine hhas.mono ?_; rintro e w4 ⟨rfl, n, rfl⟩)
          | (go_at_call 98; refine (hf' _ _).mono ?_; rintro e w5 ⟨te, pe, rfl, hE, hb5⟩))
        refine bodyPost_ret (v := .tuple #[.slice none 0 0, .pointer none, .slice none 0 0, .iface te pe]) (by simp [results, Tryz.results245, go_sem]) rfl ?_
        exact ⟨_, _, w2, hP2, .inr ⟨hz, te, pe, rfl, hE⟩, (belowN hbel n).trans (hb5.mono (by simpa using hsz))⟩
end Go.Proofs.YtnpjldffciociaaGreatDoor
namespace Go.Proofs.YtnpjldffciociaaGreatDoor
open Go.RowKit

set_option maxRecDepth 10000 in
set_option maxHeartbeats 1000000 in
theorem pSlGrow0 (w : World) :
    Calls Tryz.prog 291 #[.slice none 0 0, .int .i64 0] w fun e w' => e = .returned (.slice none 0 0) ∧ w' = w := by
  go_enter Tryz.func291, Tryz.ntmps291
  go_wp2
  go_ret
  exact ⟨rfl, rfl⟩
set_option maxRecDepth 10000 in
set_option maxHeartbeats 1000000 in
theorem pSlGrow (n : Nat) (w : World) (hn : 0 < n) (hn2 : n ≤ 1048577) :
    Calls Tryz.prog 291 #[.slice none 0 0, .int .i64 n] w fun e w' => ∃ v, e = .returned v ∧ w'.ownsRow w.heap.size 185 1 v 0 [] ∧ Below w.heap.size w w' := by
  obtain ⟨i0, hi0, hz0, hz1, hz2⟩ := info_parts Tryz.infoType
  have hn0 : ¬ ((n : Int) < 0) := by omega
  have hn1 : (0 : Int) < (n : Int) := by omega
  go_enter Tryz.func291, Tryz.ntmps291
  obtain ⟨gc, hgc⟩ : ∃ gc, gc = grownCap w n 0 185 := ⟨_, rfl⟩
  have hge : n ≤ gc := by rw [hgc]; exact grownCap_ge w n 0 _
  have hle : gc ≤ maxLen := by rw [hgc]; exact grownCap_le_maxLen w n 0 _ (by unfold maxLen; omega)
  have hrun := fun ty => Lib.run_append_nil_zeros (P := Tryz.prog) w 111 3 ty 185 i0 (.int .i64 0) .i64 .i64 Tryz.underlying111 Tryz.underlying3 hi0 hz0 n hn (by omega) (by omega) (by rw [hz2]; omega)
  rw [← hgc] at hrun
  clear hgc
  have hcz : (Builtin.zeroCells (Value.int .i64 0).cells n ++ Builtin.zeroCells (Value.int .i64 0).cells (gc - n)).size = gc * 1 := by
    simp [Builtin.zeroCells, Value.cells]; omega
  generalize Builtin.zeroCells (Value.int .i64 0).cells n ++ Builtin.zeroCells (Value.int .i64 0).cells (gc - n) = cur at *
  go_wp2_with (at_builtin; refine Lib.wpList_append_run _ rfl _ _ 111 3 rfl _ _ rfl rfl _ _ (hrun _) ?_)
  go_ret
  refine ⟨_, rfl, ⟨rfl, .inr ⟨w.heap.size, gc, cur, rfl, Nat.le_refl _, heap_alloc_new w.drew _, Nat.zero_le _, hle, hcz, by simp⟩⟩, ((Below.refl _ _).drew).alloc (by simp) _⟩

theorem one_iv (zs : List Int) : ∀ u ∈ zs.map iv, u.oneCell' = true := by
  intro u hu
  obtain ⟨z, _, rfl⟩ := List.mem_map.1 hu
  rfl
set_option maxRecDepth 10000 in
set_option maxHeartbeats 2000000 in
theorem pSlConcat (g : Nat) (v1 v2 : Value) (xs ys : List Int) (w : World) (hc0 : w.cell? ⟨g, 0, none⟩ = some v1) (hc1 : w.cell? ⟨g, 1, none⟩ = some v2) (hgl : g < w.heap.size) (h1 : Reads w v1 (xs.map iv)) (h2 : Reads w v2 (ys.map iv)) (n1 : NilOk v1) (n2 : NilOk v2) (hx : xs.length ≤ 9) (hy : ys.length ≤ 9) :
    Calls Tryz.prog 249 #[.slice (some ⟨g, 0, none⟩) 2 2] w fun e w' => ∃ v, e = .returned v ∧ w'.ownsRow w.heap.size 185 1 v (xs ++ ys).length ((xs ++ ys).map iv) ∧ Below w.heap.size w w' := by
  obtain ⟨i0, hi0, hz0, hz1, hz2⟩ := info_parts Tryz.infoType
  obtain ⟨a1, c1, rfl, hr1⟩ := id h1
  obtain ⟨a2, c2, rfl, hr2⟩ := id h2
  have hG : Calls Tryz.prog 291 #[.slice none 0 0, .int .i64 ((xs.length : Int) + (ys.length : Int))] w fun e w' => ∃ v, e = .returned v ∧ w'.ownsRow w.heap.size 185 1 v 0 [] ∧ Below w.heap.size w w' := by
    by_cases h0 : xs.length + ys.length = 0
    · rw [show (xs.length : Int) + (ys.length : Int) = 0 by omega]
      refine (pSlGrow0 w).mono ?_
      rintro e w' ⟨rfl, rfl⟩
      exact ⟨_, rfl, World.ownsRow_nil _ _ _ _, Below.refl _ _⟩
    · have := pSlGrow (xs.length + ys.length) w (by omega) (by omega)
      rw [show ((xs.length + ys.length : Nat) : Int) = (xs.length : Int) + (ys.length : Int) by omega] at this
      exact this
  have HR1 := hidR h1
  have HR2 := hidR h2
  clear h1 h2 hr1 hr2
  rw [List.length_map] at *
  go_enter Tryz.func249, Tryz.ntmps249
  go_wp2
  refine wp_loop_rounds 3 ?_
  rw [rounds_succ]
  go_wp2
  rw [rounds_succ]
  go_wp2
  rw [rounds_succ]
  go_wp2_with (go_at_call 291; refine hG.mono ?_; rintro e w1 ⟨v0, rfl, hown0, hb0⟩)
  have hd0 := (hb0.cell (p := ⟨g, 0, none⟩) hgl).trans hc0
  have hd1 := (hb0.cell (p := ⟨g, 1, none⟩) hgl).trans hc1
  clear hc0 hc1 hG
  refine wp_loop_rounds 3 ?_
  rw [rounds_succ]
  go_wp2_with (at_builtin; refine append_src rfl _ _ 111 rfl w.heap.size 185 i0 (.int .i64 0) 8 Tryz.underlying111 hi0 hz0 hz1 hz2 rfl _ _ _ rfl hown0 _ (xs.map iv) rfl n1 (HR1.out.below hb0) (one_iv _) (by unfold maxLen; simp; omega) (by simp; omega) hb0.size ?_; intro v3 w3 hown3 hb3; simp only [Nat.zero_add, List.nil_append, List.length_map] at hown3)
  have hb03 := hb0.trans hb3
  have he1 := (hb03.cell (p := ⟨g, 1, none⟩) hgl).trans ((hb0.cell (p := ⟨g, 1, none⟩) hgl).symm.trans hd1)
  rw [rounds_succ]
  go_wp2_with (at_builtin; refine append_src rfl _ _ 111 rfl w.heap.size 185 i0 (.int .i64 0) 8 Tryz.underlying111 hi0 hz0 hz1 hz2 rfl _ _ _ rfl hown3 _ (ys.map iv) rfl n2 (HR2.out.below hb03) (one_iv _) (by unfold maxLen; simp; omega) (by simp; omega) hb03.size ?_; intro v4 w4 hown4 hb4)
  rw [rounds_succ]
  go_wp2
  go_ret
  refine ⟨_, rfl, ?_, hb03.trans hb4⟩
  rw [List.length_append, List.map_append]
  simpa using hown4
end Go.Proofs.YtnpjldffciociaaGreatDoor
