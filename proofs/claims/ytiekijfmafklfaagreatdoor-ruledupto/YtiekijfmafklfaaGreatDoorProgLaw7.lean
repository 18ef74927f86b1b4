import Derived.Test.YtiekijfmafklfaaGreatDoorProgLaw6
namespace Go.Proofs.YtiekijfmafklfaaGreatDoor
open Go.RowKit

abbrev wAllow : List UInt8 := [97, 108, 108, 111, 119]
abbrev wMask : List UInt8 := [109, 97, 115, 107]

set_option maxRecDepth 10000 in
set_option maxHeartbeats 1000000 in
theorem prule_allow (rb lb : Nat) (w : World) (P : World → Prop) (R : Value → World → Prop)
    (hw : Calls Tryz.prog 57 #[.pointer (some ⟨rb, 0, none⟩)] w fun e w' => e = .returned (.string (bs wAllow)) ∧ P w')
    (hr : ∀ w1, P w1 → Calls Tryz.prog 58 #[.pointer (some ⟨rb, 0, none⟩), .pointer (some ⟨lb, 0, none⟩)] w1 fun e w' => ∃ v, e = .returned v ∧ R v w') :
    Calls Tryz.prog 37 #[.pointer (some ⟨rb, 0, none⟩), .pointer (some ⟨lb, 0, none⟩)] w fun e w' => ∃ v, e = .returned v ∧ R v w' := by
  have hbs := bs_toList2
  go_enter Tryz.func37, Tryz.ntmps37
  go_wp2_with (first
    | (go_at_call 57; refine hw.mono ?_; rintro e w1 ⟨rfl, hP⟩)
    | (go_at_call 58; refine (hr _ hP).mono ?_; rintro e w2 ⟨v, rfl, hR⟩))
  go_ret
  exact ⟨v, rfl, hR⟩
set_option maxRecDepth 10000 in
set_option maxHeartbeats 1000000 in
theorem prule_mask (rb lb : Nat) (w : World) (P : World → Prop) (R : Value → World → Prop)
    (hw : Calls Tryz.prog 57 #[.pointer (some ⟨rb, 0, none⟩)] w fun e w' => e = .returned (.string (bs wMask)) ∧ P w')
    (hr : ∀ w1, P w1 → Calls Tryz.prog 59 #[.pointer (some ⟨rb, 0, none⟩), .pointer (some ⟨lb, 0, none⟩)] w1 fun e w' => ∃ v, e = .returned v ∧ R v w') :
    Calls Tryz.prog 37 #[.pointer (some ⟨rb, 0, none⟩), .pointer (some ⟨lb, 0, none⟩)] w fun e w' => ∃ v, e = .returned v ∧ R v w' := by
  have hbs := bs_toList2
  go_enter Tryz.func37, Tryz.ntmps37
  go_wp2_with (first
    | (go_at_call 57; refine hw.mono ?_; rintro e w1 ⟨rfl, hP⟩)
    | (go_at_call 59; refine (hr _ hP).mono ?_; rintro e w2 ⟨v, rfl, hR⟩))
  go_ret
  exact ⟨v, rfl, hR⟩
set_option maxRecDepth 10000 in
set_option maxHeartbeats 1000000 in
theorem prule_none (rb lb : Nat) (x : List UInt8) (w : World) (P : World → Prop) (R : Value → World → Prop) (h1 : (x == wAllow) = false) (h2 : (x == wMask) = false)
    (hw : Calls Tryz.prog 57 #[.pointer (some ⟨rb, 0, none⟩)] w fun e w' => e = .returned (.string (bs x)) ∧ P w')
    (hr : ∀ w1 s, P w1 → Calls Tryz.prog 60 #[.pointer (some ⟨rb, 0, none⟩), .string s] w1 fun e w' => ∃ te pe, e = .returned (.iface te pe) ∧ R (.iface te pe) w') :
    Calls Tryz.prog 37 #[.pointer (some ⟨rb, 0, none⟩), .pointer (some ⟨lb, 0, none⟩)] w fun e w' => ∃ te pe, e = .returned (.iface te pe) ∧ R (.iface te pe) w' := by
  have hbs := bs_toList2
  go_enter Tryz.func37, Tryz.ntmps37
  go_wp2_with (first
    | (go_at_call 57; refine hw.mono ?_; rintro e w1 ⟨rfl, hP⟩)
    | (go_at_call 60; refine (hr _ _ hP).mono ?_; rintro e w2 ⟨te, pe, rfl, hR⟩))
  go_ret
  exact ⟨te, pe, rfl, hR⟩
/-- What a rule is: none; an allow; a mask. -/
def ruleP (ts : List (List UInt8 × List Bool)) (ms : List MRow) (ws : List (List UInt8)) : Option (Option (Nat × Nat)) :=
  if wordAt ws 0 = wAllow then match allowP ts ws with
    | true => some none
    | false => none
  else if wordAt ws 0 = wMask then match maskP ts ws with
    | none => none
    | some (t, c) => if hasMask ms t c then none else some (some (t, c))
  else none
theorem RAns.form {w0 : World} {lb na : Nat} {ms : List MRow} {o : Option (Option (Nat × Nat))} {errno : Int} {e : Ending} {w' : World} (h : RAns w0 lb na ms o errno e w') : ∃ v, e = .returned v := by
  obtain ⟨h, _⟩ := h
  match o, h with
  | none, ⟨te, pe, he, _⟩ => exact ⟨_, he⟩
  | some none, ⟨he, _⟩ => exact ⟨_, he⟩
  | some (some (t, c)), ⟨he, _⟩ => exact ⟨_, he⟩
theorem RAns.cong {w0 : World} {lb na : Nat} {ms : List MRow} {o o' : Option (Option (Nat × Nat))} {errno : Int} {e : Ending} {w' : World} (h : RAns w0 lb na ms o errno e w') (ho : o = o') : RAns w0 lb na ms o' errno e w' := ho ▸ h

theorem RAns.calls {f : Nat} {args : Array Value} {w w0 : World} {lb na : Nat} {ms : List MRow} {o : Option (Option (Nat × Nat))} {errno : Int} (h : Calls Tryz.prog f args w fun e w' => RAns w0 lb na ms o errno e w') : Calls Tryz.prog f args w fun e w' => ∃ v, e = .returned v ∧ RAns w0 lb na ms o errno (.returned v) w' :=
  h.mono fun e w' h => by obtain ⟨v, rfl⟩ := h.form; exact ⟨v, rfl, h⟩
theorem xrule (w0 w : World) (vs vw : Value) (ts : List (List UInt8 × List Bool)) (ws : List (List UInt8)) (errno : Int) (lb na : Nat) (av mv : Value) (xs : List Value) (ms : List MRow) (H : Hand w0 vs ts lb av mv na xs ms) (hX : RX w0 w vs vw ws 0 errno true) :
    Calls Tryz.prog 37 #[.pointer (some ⟨w0.heap.size, 0, none⟩), .pointer (some ⟨lb, 0, none⟩)] w fun e w' => RAns w0 lb na ms (ruleP ts ms ws) errno e w' := by
  have hlb : lb < w0.heap.size := (Array.getElem?_eq_some_iff.1 H.law.blk).1
  have hw := xword w0 w vs vw ws 0 errno true hX (by omega)
  unfold ruleP
  by_cases ha : wordAt ws 0 = wAllow
  · rw [if_pos ha]
    rw [ha] at hw
    refine (prule_allow _ lb w _ _ hw fun w1 hP => RAns.calls (xallow w0 w1 vs vw ts ws errno lb na av mv xs ms H hP.1)).mono ?_
    rintro e w' ⟨v, rfl, h⟩; exact h
  · rw [if_neg ha]
    by_cases hm : wordAt ws 0 = wMask
    · rw [if_pos hm]
      rw [hm] at hw
      refine (prule_mask _ lb w _ _ hw fun w1 hP => RAns.calls (xmask w0 w1 vs vw ts ws errno lb na av mv xs ms H hP.1)).mono ?_
      rintro e w' ⟨v, rfl, h⟩; exact h
    · rw [if_neg hm]
      refine (prule_none _ lb _ w _ (fun v w' => Err w' errno v ∧ Stp w0.heap.size w w') (by simpa using ha) (by simpa using hm) hw fun w1 s hP => (xwrong w0 w1 w1 vs vw ws 1 errno true hP.1 (Below.refl _ _) s).mono ?_).mono ?_
      · rintro e w' ⟨te, pe, rfl, hE, hb⟩
        exact ⟨te, pe, rfl, hE, hP.2.trans (Stp.of_below hb)⟩
      · rintro e w' ⟨te, pe, rfl, hE, hS⟩
        exact RAns.err hX hE hS (Nat.le_of_lt hlb)
end Go.Proofs.YtiekijfmafklfaaGreatDoor
