import Derived.Test.YtiekijfmafklfaaGreatDoorProgE
import Derived.Test.YtiekijfmafklfaaGreatDoorRefQ
namespace Go.Proofs.YtiekijfmafklfaaGreatDoor
open Go.RowKit

theorem Tryz.infoPTab : (Tryz.prog.info? 66).map (fun i => (i.zero, i.size, i.bytes)) = some (some (.agg #[.string ByteArray.empty, .slice none 0 0]), 2, 40) := by kernel_rfl

theorem Err.form {w : World} {n : Int} {e : Value} (h : Err w n e) : ∃ t p, e = .iface t p := by
  obtain ⟨b, d, h⟩ := h
  cases h <;> exact ⟨_, _, rfl⟩

theorem go_none {acc : List (List UInt8 × List Bool)} {p : List UInt8} {r : List (List UInt8)} (h : tableOf p = none) : schemaGo acc (p :: r) = none := by simp [schemaGo, h]
theorem go_twice {acc : List (List UInt8 × List Bool)} {p : List UInt8} {r : List (List UInt8)} {t : List UInt8 × List Bool} (h : tableOf p = some t) {j : Nat} (hf : findT acc t.1 = some j) : schemaGo acc (p :: r) = none := by simp [schemaGo, h, hf]
theorem go_more {acc : List (List UInt8 × List Bool)} {p : List UInt8} {r : List (List UInt8)} {t : List UInt8 × List Bool} (h : tableOf p = some t) (hf : findT acc t.1 = none) : schemaGo acc (p :: r) = schemaGo (acc ++ [t]) r := by simp [schemaGo, h, hf]
theorem go_len : ∀ (ps : List (List UInt8)) (acc ts : List (List UInt8 × List Bool)), schemaGo acc ps = some ts → ts.length = acc.length + ps.length := by
  intro ps
  induction ps with
  | nil => intro acc ts h; simp [schemaGo] at h; subst h; simp
  | cons p r ih =>
    intro acc ts h
    rw [schemaGo] at h
    split at h
    · cases h
    · split at h
      · cases h
      · have := ih _ ts h
        simp at this ⊢; omega

/-- What ReadSchema answers. -/
def SchemaAns (w : World) (o : Option (List (List UInt8 × List Bool))) (e : Ending) : Prop :=
  ∃ v ev, e = .returned (.tuple #[v, ev]) ∧ match o with
    | none => Err w 1 ev
    | some ts => ev = .nilIface ∧ ReadsTabs tcode w v ts

set_option maxRecDepth 10000 in
set_option maxHeartbeats 1000000 in
theorem rs_many (s : ByteArray) (w : World) (n : Nat) (hn : 6 ≤ n) (hn2 : n ≤ 4194304) (hc : ∀ w, Calls Tryz.prog 21 #[.string s, .string ⟨#[59]⟩] w fun e w' => e = .returned (.int .i64 n) ∧ w' = w) :
    Calls Tryz.prog 12 #[.string s] w fun e w' => SchemaAns w' none e ∧ Below w.heap.size w w' := by
  go_enter Tryz.func12, Tryz.ntmps12
  go_wp2_with (first
    | (go_at_call 21; refine (hc _).mono ?_; rintro e w' ⟨rfl, hw⟩; obtain rfl := hw.symm)
    | (go_at_call 22; refine (schemaFault_any _ _).mono ?_; rintro e w' ⟨rfl, rfl⟩))
  go_ret2
  exact ⟨⟨_, _, rfl, Err.new _ _ _⟩, by go_grown⟩

set_option maxRecDepth 10000 in
set_option maxHeartbeats 4000000 in
theorem rs_go (s : ByteArray) (w : World) (ps : List (List UInt8)) (n : Nat) (hn : n < 6) (hpl : ps.length = n + 1) (hg : Glob w) (hwl : ∀ p ∈ ps, p.length ≤ 1048576)
    (hc : ∀ w, Calls Tryz.prog 21 #[.string s, .string ⟨#[59]⟩] w fun e w' => e = .returned (.int .i64 n) ∧ w' = w)
    (hs : Calls Tryz.prog 23 #[.string s, .string ⟨#[59]⟩] w fun e w' => e = .returned (.slice (some ⟨w.heap.size, 0, none⟩) ps.length ps.length) ∧ w' = w.alloc (.cells (ps.map fun l => Value.string (bs l)).toArray 9)) :
    Calls Tryz.prog 12 #[.string s] w fun e w' => SchemaAns w' (schemaGo [] ps) e ∧ Below w.heap.size w w' := by
  obtain ⟨i0, hi0, hz0, hz1, hz2⟩ := info_parts Tryz.infoPTab
  have HG : Hid _ := hg
  have HW : Hid _ := hwl
  clear hg hwl
  obtain ⟨R, HR⟩ : ∃ R, Hid (schemaGo [] ps = R) := exHid _
  rw [HR.out]
  go_enter Tryz.func12, Tryz.ntmps12
  go_wp2_with (first
    | (go_at_call 21; refine (hc _).mono ?_; rintro e w' ⟨rfl, hw⟩; obtain rfl := hw.symm)
    | (go_at_call 23; refine hs.mono ?_; rintro e w' ⟨rfl, rfl⟩))
  obtain ⟨w1, HW1⟩ : ∃ w1, Hid (w.alloc (.cells (ps.map fun l => Value.string (bs l)).toArray 9) = w1) := exHid _
  have hb1 : Below w.heap.size w w1 := by rw [← HW1.out]; exact (Below.refl _ _).alloc (Nat.le_refl _) _
  have hz1' : w1.heap.size = w.heap.size + 1 := by rw [← HW1.out]; simp
  have HCP : Hid (∀ j (h : j < ps.length), w1.cell? ⟨w.heap.size, j, none⟩ = some (.string (bs ps[j]))) := Hid.mk fun j h => by
    rw [← HW1.out, World.cell?_alloc_at _ _ _ _ rfl]; simp [h]
  rw [HW1.out]
  have HZ : Hid _ := hz1'
  have hw1 : w.heap.size < w1.heap.size := by omega
  clear hz1' hs hc
  go_loopw [4, 16] (fun u i wr => ∃ (k : Nat) (acc : List (List UInt8 × List Bool)), k ≤ ps.length ∧ acc.length = k ∧ i = .int .i64 k ∧ R = schemaGo acc (ps.drop k) ∧ PTabs wr w1.heap.size u acc ∧ Below w1.heap.size w1 wr) (fun _ i _ => ps.length - (intOf i).toNat)
  case atStart => exact ⟨0, [], Nat.zero_le _, rfl, rfl, HR.out.symm, PTabs.nil _ _, Below.refl _ _⟩
  case round =>
    obtain ⟨k, acc, hk, hal, rfl, hgo, htab, hbel⟩ := hrel
    have HGO : Hid _ := hgo
    have HAL : Hid _ := hal
    clear hgo hal
    have hsz := hbel.size
    by_cases hlt : k < ps.length
    · obtain ⟨p, HP⟩ : ∃ p, Hid (ps[k] = p) := exHid _
      have hpw : p.length ≤ 1048576 := by rw [← HP.out]; exact HW.out _ (List.getElem_mem hlt)
      have hcp : wr.cell? ⟨w.heap.size, k, none⟩ = some (.string (bs p)) := by
        rw [hbel.cell (p := ⟨w.heap.size, k, none⟩) hw1, HCP.out k hlt, HP.out]
      have HD : Hid (R = schemaGo acc (p :: ps.drop (k + 1))) := Hid.mk (by rw [HGO.out, List.drop_eq_getElem_cons hlt, HP.out])
      have hrt := readTable_any (bs p) wr (by simpa using hpw) (Glob.kept (Glob.kept HG.out hb1) hbel)
      rw [bs_toList] at hrt
      have hkb : k ≤ 7 := by omega
      have hwk : w.heap.size ≤ w1.heap.size := by omega
      have hBel : ∀ wa, Below wr.heap.size wr wa → Below w.heap.size w wa := fun wa h => (hb1.trans (hbel.mono hwk)).trans (h.mono (Nat.le_trans hwk hsz))
      cases htb : tableOf p with
      | none =>
        have hRN : Hid (R = none) := Hid.mk (by rw [HD.out]; exact go_none htb)
        rw [htb] at hrt
        clear htb
        go_wp2_with (go_at_call 24; refine hrt.mono ?_; rintro e wa ⟨⟨nm, tv, ev, rfl, ⟨av, nv, cv, rfl⟩, hE⟩, hba⟩; obtain ⟨te, pe, rfl⟩ := hE.form; have HE : Hid _ := hE; clear hE)
        go_ret2
        rw [hRN.out]
        have hzz := hba.size
        exact ⟨⟨_, _, rfl, Err.wrap' (Err.kept (show Err wa 1 (.iface te pe) from HE.out) ((Below.refl _ _).alloc (Nat.le_refl _) _)) _ _ _ (by simp)⟩, ((hBel wa hba).alloc (by omega) _).alloc (by simp; omega) _⟩
      | some t =>
        rw [htb] at hrt
        have hfd : ∀ W, Below wr.heap.size wr W → Calls Tryz.prog 25 #[u4, .string (bs t.1)] W fun e w' => e = .returned (.int .i64 (idxOf (findT acc t.1))) ∧ Below W.heap.size W w' :=
          fun W h => pFind_any u4 acc t.1 W (htab.below h).reads (by rw [HAL.out]; omega)
        have HTB : Hid _ := htb
        clear htb
        cases hf : findT acc t.1 with
        | some j =>
          have hRN : Hid (R = none) := Hid.mk (by rw [HD.out]; exact go_twice HTB.out hf)
          rw [hf] at hfd
          simp only [idxOf] at hfd
          clear hf
          go_wp2_with (first
            | (go_at_call 24; refine hrt.mono ?_; rintro e wa ⟨⟨nm, tv, ev, rfl, ⟨av, nv, cv, rfl⟩, rfl, rfl, hot⟩, hba⟩; have hzz := hba.size; have HOT : Hid _ := hot; clear hot)
            | (go_at_call 25; refine (hfd _ (hba.alloc hzz _)).mono ?_; rintro e wb ⟨rfl, hbb⟩; have hzb := hbb.size)
            | (go_at_call 22; refine (schemaFault_any _ _).mono ?_; rintro e w' ⟨rfl, rfl⟩))
          go_ret2
          rw [hRN.out]
          have hzb' : wa.heap.size + 1 ≤ wb.heap.size := by simpa using hzb
          exact ⟨⟨_, _, rfl, Err.newWrap _ _ _ _ _⟩, ((((hBel wa hba).alloc (by omega) _).trans (hbb.mono (by simp; omega))).alloc (by omega) _).alloc (by simp; omega) _⟩
        | none =>
          have HGOOD : Hid (R = schemaGo (acc ++ [t]) (ps.drop (k + 1))) := Hid.mk (by rw [HD.out]; exact go_more HTB.out hf)
          rw [hf] at hfd
          simp only [idxOf] at hfd
          clear hf
          have hacc := HAL.out
          go_wp2_with (first
            | (go_at_call 24; refine hrt.mono ?_; rintro e wa ⟨⟨nm, tv, ev, rfl, ⟨av, nv, cv, rfl⟩, rfl, rfl, hot⟩, hba⟩; have hzz := hba.size; have HOT : Hid _ := hot; clear hot)
            | (go_at_call 25; refine (hfd _ (hba.alloc hzz _)).mono ?_; rintro e wb ⟨rfl, hbb⟩; have hzb := hbb.size; obtain ⟨hcc, _⟩ := bcell hbb; have hk0 : wb.cell? ⟨wa.heap.size, 0, none⟩ = some (.string (bs t.1)) := ((hcc wa.heap.size 0 (by simp)).trans (by simp)); have hk1 : wb.cell? ⟨wa.heap.size, 1, none⟩ = some (.slice av nv cv) := ((hcc wa.heap.size 1 (by simp)).trans (by simp)); have hzb' : wa.heap.size + 1 ≤ wb.heap.size := (by simpa using hzb); obtain ⟨tvs, htvl, htr, htrs⟩ := htab.below ((hba.alloc hzz _).trans (hbb.mono (by simp; omega))); have HTRS : Hid _ := htrs; clear htrs)
            | (at_builtin; refine wpList_append_own _ rfl _ _ 32 rfl w1.heap.size 66 i0 _ 2 40 Tryz.underlying32 hi0 hz0 hz1 hz2 rfl (by decide) _ _ _ rfl (htr.alloc _) ⟨wb.heap.size, 0, none⟩ 1 1 [.string (bs t.1), .slice av nv cv] rfl rfl (news_two ()) (by intro u hu; simp at hu; rcases hu with rfl | rfl; exact rfl; exact rfl) (by unfold maxLen; omega) (by omega) (by simp; omega) ?_; intro v6 w6 hown6 hgrow6 _))
          go_roundw
          case rel =>
            have hal3 : ∀ {o : Obj}, Below wb.heap.size wb (wb.alloc o) := fun {o} => (Below.refl _ _).alloc (Nat.le_refl _) o
            have hwa : Below wa.heap.size wa wb := ((Below.refl _ _).alloc (Nat.le_refl _) _).trans (hbb.mono (by simp))
            have hbw1 : Below w1.heap.size w1 wb := hbel.trans (((hba.mono hsz)).trans (hwa.mono (by omega)))
            refine ⟨k + 1, acc ++ [t], by omega, by simp [hacc], by go_num, HGOOD.out, ?_, ?_⟩
            · exact PTabs.grow2 (tv := .slice av nv cv) htvl (owns_below htr hal3) (fun j t tv h1 h2 => owns_below (HTRS.out j t tv h1 h2) hal3) (owns_base (owns_below (owns_below HOT.out hwa) hal3) hsz) hgrow6 hown6
            · exact ((hbw1.alloc (by omega) _).grown hgrow6 (by simp; omega) fun q hq => own_ge htr hq)
          case measure => simp [intOf]; omega
    · have hd : ps.drop k = [] := List.drop_of_length_le (by omega)
      have hR : R = some acc := by rw [HGO.out, hd]; rfl
      have hrd := htab.reads
      have HRD : Hid _ := hrd
      have HRR : Hid _ := hR
      clear hR hrd htab
      go_wp2
      go_ret2
      rw [HRR.out]
      exact ⟨⟨_, _, rfl, rfl, HRD.out⟩, hb1.trans (hbel.mono (by omega))⟩
end Go.Proofs.YtiekijfmafklfaaGreatDoor
