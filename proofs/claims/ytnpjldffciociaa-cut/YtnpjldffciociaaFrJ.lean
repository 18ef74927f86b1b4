import Derived.Test.YtnpjldffciociaaFrI
namespace Go.Proofs.Ytnpjldffciociaa
open Go.RowKit

theorem Try.infoInt : (Try.prog.info? 3).map (fun i => (i.zero, i.size, i.bytes)) = some (some (.int .i64 0), 1, 8) := by kernel_rfl
abbrev OwnI (base : Nat) (v : Value) (cs : List (List UInt8)) (k : Nat) (w : World) : Prop := w.ownsRow base 3 1 v k (endsV cs k)
theorem ends_snoc (cs : List (List UInt8)) (k : Nat) : endsV cs (k + 1) = endsV cs k ++ [.int .i64 (endAt cs (k + 1) : Nat)] := by
  unfold endsV; rw [List.range_succ, List.map_append]; rfl
theorem own_val {w : World} {base : Nat} {e : TypeId} {v : Value} {n : Nat} {xs : List Value} {z z' : Int} (h : w.ownsRow base e 1 v n (xs ++ [.int .i64 z])) (hz : z = z') : w.ownsRow base e 1 v n (xs ++ [.int .i64 z']) := by rw [← hz]; exact h
/-- The payloads as they came in, and cut to size. -/
def Came (w : World) (a : Option Addr) (cs : List (List UInt8)) : Prop :=
  ∀ j (h : j < cs.length), ∃ b off s, a = some ⟨b, off, none⟩ ∧ b < w.heap.size ∧ w.cell? ⟨b, off + j, none⟩ = some (.string s) ∧ s.size ≤ maxLen ∧ cs[j] = clipL s.data.toList
theorem pack_mid (c : List UInt8) (h : Fits c) : (bs (packL c)).extract 4 (c.length + 4) = bs c := by
  rw [ex_bs, bs_toList, packL_eq h, List.drop_take, ← fourL_length c.length, List.drop_left, List.take_append_of_le_length (by simp [fourL_length])]
  congr 1
  exact List.take_of_length_le (by simp)
theorem clip_cases (s : ByteArray) (c : List UInt8) (hc : c = clipL s.data.toList) :
    (s.size < 1 ∧ c = [120]) ∨ (1 ≤ s.size ∧ s.size ≤ 1000 ∧ s = bs c) ∨ (1000 < s.size ∧ s.extract 0 1000 = bs c) := by
  have hl : s.data.toList.length = s.size := by simp
  unfold clipL at hc
  rw [hl] at hc
  by_cases h1 : s.size < 1
  · rw [if_pos h1] at hc; exact Or.inl ⟨h1, hc⟩
  · rw [if_neg h1] at hc
    by_cases h2 : 1000 < s.size
    · rw [if_pos h2] at hc
      exact Or.inr (Or.inr ⟨h2, by rw [ex_bs, hc]; rfl⟩)
    · rw [if_neg h2] at hc
      exact Or.inr (Or.inl ⟨by omega, by omega, by rw [hc]; rfl⟩)

def Ends (w : World) (va : Option Addr) (cs : List (List UInt8)) : Prop :=
  ∀ i, i < cs.length → ∃ g, va = some ⟨g, 0, none⟩ ∧ g < w.heap.size ∧ w.cell? ⟨g, i, none⟩ = some (.int .i64 (endAt cs (i + 1) : Nat))
theorem Ends.below {w w' : World} {va : Option Addr} {cs : List (List UInt8)} (h : Ends w va cs) (hb : Below w.heap.size w w') : Ends w' va cs := by
  intro i hi
  obtain ⟨g, rfl, hg, hc⟩ := h i hi
  exact ⟨g, rfl, Nat.lt_of_lt_of_le hg hb.size, by rw [hb.cell (p := ⟨g, i, none⟩) hg]; exact hc⟩
theorem add_zero' (g j : Nat) : (⟨g, 0, none⟩ : Addr).add j = ⟨g, j, none⟩ := by simp [Addr.add]; omega
theorem OwnI.ends {base : Nat} {v : Value} {cs : List (List UInt8)} {w : World} (h : OwnI base v cs cs.length w) : ∃ va vc, v = .slice va cs.length vc ∧ Ends w va cs := by
  have hcells := fun g => h.cells (g := g)
  have hlt := h.lt
  rcases h.2 with ⟨rfl, h0⟩ | ⟨g, cap, cur, rfl, _⟩
  · exact ⟨none, 0, by rw [h0], fun i hi => by omega⟩
  · refine ⟨_, _, rfl, fun i hi => ⟨g, rfl, (hlt g rfl).2, ?_⟩⟩
    have := hcells g rfl i (.int .i64 (endAt cs (i + 1) : Nat)) (by simp [endsV, hi])
    rwa [add_zero'] at this
theorem OwnT.reads {base : Nat} {v : Value} {ls : List (List UInt8)} {n : Nat} {w : World} (h : OwnT base v ls w) (hl : ls.length = n) : ∃ va vc, v = .slice va n vc ∧ ∀ i (hi : i < ls.length), ∃ g, va = some ⟨g, 0, none⟩ ∧ g < w.heap.size ∧ w.cell? ⟨g, i, none⟩ = some (sv ls[i]) := by
  have hcells := fun g => h.cells (g := g)
  have hlt := h.lt
  rcases h.2 with ⟨rfl, h0⟩ | ⟨g, cap, cur, rfl, _⟩
  · exact ⟨none, 0, by rw [← hl, h0], fun i hi => by omega⟩
  · refine ⟨_, _, by rw [← hl], fun i hi => ⟨g, rfl, (hlt g rfl).2, ?_⟩⟩
    have := hcells g rfl i (sv ls[i]) (by simp [hi])
    rwa [add_zero'] at this
theorem kbroke (cs : List (List UInt8)) (hf : ∀ p ∈ cs, Fits p) (hcl : cs.length ≤ 100) (va : Option Addr) (vc : Nat) (t x : Int) (w : World) (he : Ends w va cs)
    (ht1 : -9223372036854775808 ≤ t) (ht2 : t ≤ 9223372036854775807) (hx1 : -9223372036854775808 ≤ x) (hx2 : x ≤ 9223372036854775807) :
    Calls Try.prog 12 #[.string (bs (packsL cs)), .slice va cs.length vc, .int .i64 t, .int .i64 x] w fun e w' => e = .returned (.bool true) ∧ Below w.heap.size w w' := by
  by_cases h0 : cs.length = 0
  · rw [h0]
    refine (kbroke_none vc va _ t x w).mono ?_
    rintro e w' ⟨rfl, rfl⟩
    exact ⟨rfl, Below.refl _ _⟩
  · obtain ⟨g, rfl, _, _⟩ := he 0 (by omega)
    refine kbroke_some cs hf hcl (by omega) g vc t x w (fun i hi => ?_) ht1 ht2 hx1 hx2
    obtain ⟨g', e, _, hc⟩ := he i hi
    cases e
    exact hc
theorem kpack9 (w : World) : Calls Try.prog 9 #[.string ⟨#[49, 50, 51, 52, 53, 54, 55, 56, 57]⟩] w fun e w' => e = .returned (.string ⟨#[0, 0, 0, 9, 49, 50, 51, 52, 53, 54, 55, 56, 57, 203, 244, 57, 38]⟩) ∧ Below w.heap.size w w' := by
  have h := vpack [49, 50, 51, 52, 53, 54, 55, 56, 57] w (by decide)
  have e : packL [49, 50, 51, 52, 53, 54, 55, 56, 57] = [0, 0, 0, 9, 49, 50, 51, 52, 53, 54, 55, 56, 57, 203, 244, 57, 38] := by decide +kernel
  rw [e] at h
  exact h

set_option maxRecDepth 10000 in
set_option maxHeartbeats 4000000 in
theorem kcut (cs : List (List UInt8)) (hf : ∀ p ∈ cs, Fits p) (a : Option Addr) (len cap : Nat) (hcl1 : cs.length ≤ len) (hcl2 : cs.length ≤ 100) (hcl3 : 100 ≤ cs.length ∨ len ≤ cs.length) (w : World) (hcame : Came w a cs) (c t x : Int)
    (hc1 : -9223372036854775808 ≤ c) (hc2 : c ≤ 9223372036854775807) (ht1 : -9223372036854775808 ≤ t) (ht2 : t ≤ 9223372036854775807) (hx1 : -9223372036854775808 ≤ x) (hx2 : x ≤ 9223372036854775807) :
    Calls Try.prog 4 #[.slice a len cap, .int .i64 c, .int .i64 t, .int .i64 x] w fun e w' => e = .returned (.bool true) ∧ Below w.heap.size w w' := by
  have hpl := packs_le cs hf
  obtain ⟨i00, hi, hz0, hz1, hz2⟩ := info_parts Try.infoInt
  have HI := hidM hi
  have HZ0 := hidM hz0
  have HZ1 := hidM hz1
  have HZ2 := hidM hz2
  have HA := hidM hcame
  have HL := hidM hcl3
  clear hcl3
  have HF := hidM hf
  clear hi hz0 hz1 hz2 hcame hf
  go_enter Try.func4, Try.ntmps4
  go_wp2
  go_loopw [9, 10, 11] (fun all v i wr => ∃ k : Nat, k ≤ cs.length ∧ i = .int .i64 k ∧ all = .string (bs (packsL (cs.take k))) ∧ Hid (OwnI w.heap.size v cs k wr) ∧ Hid (Below w.heap.size w wr)) (fun _ _ i _ => cs.length - (intOf i).toNat)
  case atStart => exact ⟨0, Nat.zero_le _, rfl, rfl, hidM (World.ownsRow_nil _ _ _ _), hidM (Below.refl _ _)⟩
  case round =>
    obtain ⟨k, hk, rfl, rfl, HO, HB⟩ := hrel
    have hws : w.heap.size ≤ wr.heap.size := HB.out.size
    by_cases hlt : k < cs.length
    · obtain ⟨b, off, s, rfl, hbw, hcell, hmx, hck⟩ := HA.out k hlt
      have hcell' : wr.cell? ⟨b, off + k, none⟩ = some (.string s) := by
        rw [HB.out.cell (p := ⟨b, off + k, none⟩) hbw]; exact hcell
      have hFc := HF.out cs[k] (List.getElem_mem hlt)
      have HS := hidM (show packsL (cs.take (k + 1)) = packsL (cs.take k) ++ packL cs[k] by rw [List.take_succ_eq_append_getElem hlt, packsL_snoc])
      have HE := hidM (show endAt cs (k + 1) = (packsL (cs.take (k + 1))).length from rfl)
      have hpl1 : (packsL (cs.take k)).length ≤ (packsL cs).length := endAt_le cs k
      have hcc := clip_cases s cs[k] hck
      generalize hy : cs[k] = y at *
      have HM := hidM (pack_mid y hFc)
      have hpk := fun w => vpack y w (by have := hFc.2; omega)
      have hyl : (packL y).length = y.length + 8 := packL_length y
      have hy1 := hFc.1
      have hy2 := hFc.2
      unfold maxLen at hmx
      have hbs := bs_toList2
      have hmid := HM.out
      clear hcell hck hy hFc HM
      rcases hcc with ⟨h1, rfl⟩ | ⟨h1, h2, rfl⟩ | ⟨h1, h2⟩
      · clear hmid hyl hy1 hy2
        have hmid : (bs (packL [120])).extract 4 5 = bs [120] := pack_mid [120] ⟨by decide, by decide⟩
        have hyl : (packL [120]).length = 9 := packL_length _
        go_wp2_with (first
          | (go_at_call 9; refine (hpk _).mono ?_; rintro e w2 ⟨rfl, hb2⟩)
          | (at_builtin; refine append_one rfl _ _ 31 rfl w.heap.size 3 i00 (.int .i64 0) 8 Try.underlying31 HI.out HZ0.out HZ1.out HZ2.out rfl _ _ _ rfl (owns_below HO.out hb2) (.int .i64 _) rfl rfl (by unfold maxLen; omega) (by omega) (Nat.le_trans hws hb2.size) ?_; intro v' w3 hown' hb3 _))
        refine ⟨⟨k + 1, by omega, by go_num, by rw [bs_append, HS.out], hidM ?_, hidM ((HB.out.trans (hb2.mono hws)).trans hb3)⟩, by simp [intOf]; omega⟩
        unfold OwnI
        rw [ends_snoc]
        refine own_val hown' ?_
        rw [HE.out, HS.out, List.length_append, hyl]
        simp
      all_goals
        go_wp2_with (first
          | (go_at_call 9; refine (hpk _).mono ?_; rintro e w2 ⟨rfl, hb2⟩)
          | (at_builtin; refine append_one rfl _ _ 31 rfl w.heap.size 3 i00 (.int .i64 0) 8 Try.underlying31 HI.out HZ0.out HZ1.out HZ2.out rfl _ _ _ rfl (owns_below HO.out hb2) (.int .i64 _) rfl rfl (by unfold maxLen; omega) (by omega) (Nat.le_trans hws hb2.size) ?_; intro v' w3 hown' hb3 _))
        refine ⟨⟨k + 1, by omega, by go_num, by rw [bs_append, HS.out], hidM ?_, hidM ((HB.out.trans (hb2.mono hws)).trans hb3)⟩, by simp [intOf]; omega⟩
        unfold OwnI
        rw [ends_snoc]
        refine own_val hown' ?_
        rw [HE.out, HS.out, List.length_append, hyl]
        simp
        try omega
    · have hke : k = cs.length := by omega
      subst hke
      obtain ⟨va, vc, rfl, hends⟩ := HO.out.ends
      have HE := hidM hends
      rw [show packsL (cs.take cs.length) = packsL cs by rw [List.take_length]]
      have hp : ∀ (w : World) (y : Int), y = (((packsL cs).length + 1 : Nat) : Int) → Calls Try.prog 10 #[.int .i64 c, .int .i64 y] w fun e w' => (∃ r : Nat, r < (packsL cs).length + 1 ∧ e = .returned (.int .i64 r)) ∧ w' = w := by
        rintro w y rfl; exact kpick c _ w hc1 hc2 (by omega) (by omega)
      have hp9 := kpack9
      clear hends HO
      rcases (show (cs.length < len ∧ 100 ≤ cs.length) ∨ len ≤ cs.length by have := HL.out; omega) with ⟨hL, hL2⟩ | hL
      all_goals
        go_wp2_with (first
          | (go_at_call 9; refine (hp9 _).mono ?_; rintro e w2 ⟨rfl, hb2⟩)
          | (go_at_call 10; refine (hp _ _ (by omega)).mono ?_; rintro e w' ⟨⟨at', hat, rfl⟩, hw⟩; obtain rfl := hw.symm))
        have HE2 := hidM (HE.out.below hb2)
        have HB2 := hidM (HB.out.trans (hb2.mono hws))
        clear hb2 HE HB hp hp9
        go_loop [16, 17, 18] (fun wh sz i => ∃ k m : Nat, k ≤ cs.length ∧ i = .int .i64 k ∧ wh = .int .i64 m ∧ sz = .int .i64 (endAt cs m : Nat) ∧ m ≤ k ∧ endAt cs m ≤ at' ∧ Hid (∀ j, j < k → endAt cs (j + 1) ≤ at' → j + 1 ≤ m)) (fun _ _ i => cs.length - (intOf i).toNat)
        case atStart => exact ⟨0, 0, by omega, rfl, rfl, by rw [endAt_zero]; rfl, by omega, by rw [endAt_zero]; omega, hidM (fun j hj => by omega)⟩
        case round =>
          obtain ⟨k, m, hk, rfl, rfl, rfl, hmk, hea, HJ⟩ := hrel
          by_cases hlt2 : k < cs.length
          · obtain ⟨g, rfl, hg, hcell⟩ := HE2.out k hlt2
            by_cases hle : endAt cs (k + 1) ≤ at'
            · go_wp2
              refine ⟨⟨k + 1, k + 1, by omega, by go_num, by go_num, rfl, by omega, hle, hidM (fun j hj _ => by omega)⟩, by simp [intOf]; omega⟩
            · go_wp2
              refine ⟨⟨k + 1, m, by omega, by go_num, rfl, rfl, by omega, hea, hidM (fun j hj hja => ?_)⟩, by simp [intOf]; omega⟩
              by_cases hjk : j = k
              · subst hjk; exact absurd hja hle
              · exact HJ.out j (by omega) hja
          · have hk2 : k = cs.length := by omega
            subst hk2
            have hcut := cut_front cs HF.out m at' hmk hea (fun hm => by
              rcases Nat.lt_or_ge at' (endAt cs (m + 1)) with h | h
              · exact h
              · have := HJ.out m hm h; omega)
            have hex : (bs (packsL cs)).extract 0 at' = bs ((packsL cs).take at') := by rw [ex_bs, bs_toList]; rfl
            have hvu := vunpack (bs ((packsL cs).take at')) w2 (by rw [bs_size, List.length_take]; omega)
            rw [bs_toList, hcut] at hvu
            have hml : (cs.take m).length = m := by rw [List.length_take]; omega
            clear hcut HJ
            go_wp2_with (go_at_call 11; refine hvu.mono ?_; rintro e w3 ⟨v, rfl, hO, hB3⟩; obtain ⟨la, lc, rfl, hR⟩ := hO.reads hml)
            have HR := hidM hR
            have HB3 := hidM (HB2.out.trans (hB3.mono HB2.out.size))
            have HE3 := hidM (HE2.out.below hB3)
            clear hR hO hB3 hvu HE2 HB2 hex
            go_loop [22] (fun i => ∃ k : Nat, k ≤ m ∧ i = .int .i64 k) (fun i => m - (intOf i).toNat)
            case atStart => exact ⟨0, by omega, rfl⟩
            case round =>
              obtain ⟨k, hkm, rfl⟩ := hrel
              by_cases hlt3 : k < m
              · obtain ⟨b, off, s, rfl, hbw, hcell, hmx, hck⟩ := HA.out k (by omega)
                have hcell' : w3.cell? ⟨b, off + k, none⟩ = some (.string s) := by
                  rw [HB3.out.cell (p := ⟨b, off + k, none⟩) hbw]; exact hcell
                obtain ⟨g, rfl, hg, hcell3⟩ := HR.out k (by omega)
                have hcc := clip_cases s cs[k] hck
                rw [List.getElem_take] at hcell3
                have hFc := HF.out cs[k] (List.getElem_mem (by omega))
                generalize hy : cs[k] = y at *
                have hy1 := hFc.1
                have hy2 := hFc.2
                clear hFc
                have hbs := bs_toList2
                unfold maxLen at hmx
                clear hcell hck hy
                rcases hcc with ⟨h1, rfl⟩ | ⟨h1, h2, rfl⟩ | ⟨h1, h2⟩
                all_goals
                  go_wp2
                  exact ⟨⟨k + 1, by omega, by go_num⟩, by simp [intOf]; omega⟩
              · have hb := kbroke cs HF.out hcl2 va vc t x w3 HE3.out ht1 ht2 hx1 hx2
                go_wp2_with (go_at_call 12; refine hb.mono ?_; rintro e w4 ⟨rfl, hB4⟩)
                go_ret
                exact ⟨rfl, HB3.out.trans (hB4.mono HB3.out.size)⟩
end Go.Proofs.Ytnpjldffciociaa
