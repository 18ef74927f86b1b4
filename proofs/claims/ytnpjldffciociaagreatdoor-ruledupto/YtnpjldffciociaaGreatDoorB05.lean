import Derived.Test.YtnpjldffciociaaGreatDoorB04
namespace Go.Proofs.YtnpjldffciociaaGreatDoor
open Go.RowKit

def textByte (c : UInt8) : Bool := (decide (97 ≤ c.toNat) && decide (c.toNat ≤ 122)) || (decide (48 ≤ c.toNat) && decide (c.toNat ≤ 57)) || decide (c.toNat = 95)
def midOf (l : List UInt8) : List UInt8 := (l.take (l.length - 1)).drop 1
/-- Is it a text? -/
def isTextL (l : List UInt8) : Bool := decide (2 ≤ l.length) && decide (l.length ≤ 14) && (l.head? == some 39) && (l.getLast? == some 39) && (midOf l).all textByte
/-- A number: some false; a text: some true. -/
def valKind (l : List UInt8) : Option Bool := if isNum l then some false else if isTextL l then some true else none

theorem last0 {s : ByteArray} (h : 0 < s.size) : s.data.toList.getLast? = some (s[s.size - 1]'(by omega)) := by
  rw [List.getLast?_eq_getElem?, List.getElem?_eq_getElem (by simp; omega)]; rfl
theorem text_short {s : ByteArray} (h : s.size < 2) : isTextL s.data.toList = false := by
  have : ¬ 2 ≤ s.size := by omega
  simp [isTextL, this]
theorem text_long {s : ByteArray} (h : 14 < s.size) : isTextL s.data.toList = false := by
  have : ¬ s.size ≤ 14 := by omega
  simp [isTextL, this]
theorem text_first {s : ByteArray} (h : 0 < s.size) (h0 : ¬ s[0] = 39) : isTextL s.data.toList = false := by
  simp [isTextL, head0 h, h0]
theorem text_last {s : ByteArray} (h : 0 < s.size) (h0 : ¬ s[s.size - 1]'(by omega) = 39) : isTextL s.data.toList = false := by
  simp [isTextL, last0 h, h0]
theorem text_mid {s d : ByteArray} (hd : d.data.toList = midOf s.data.toList) {k : Nat} (hk : k < d.size) (h0 : textByte d[k] = false) : isTextL s.data.toList = false := by
  have : (midOf s.data.toList).all textByte = false := by
    rw [← hd, List.all_eq_false]
    exact ⟨d[k], List.mem_iff_getElem.2 ⟨k, by simpa using hk, rfl⟩, by simp [h0]⟩
  simp [isTextL, this]
theorem text_yes {s d : ByteArray} (hd : d.data.toList = midOf s.data.toList) (h2 : 2 ≤ s.size) (h14 : s.size ≤ 14) (h0 : s[0] = 39) (h1 : s[s.size - 1]'(by omega) = 39) (h : d.data.toList.all textByte = true) : isTextL s.data.toList = true := by
  have e2 : 2 ≤ s.data.toList.length := by simpa using h2
  have e14 : s.data.toList.length ≤ 14 := by simpa using h14
  rw [hd] at h
  simp only [isTextL, decide_eq_true e2, decide_eq_true e14, head0 (show 0 < s.size by omega), last0 (show 0 < s.size by omega), h0, h1, h]
  rfl
theorem all_snoc (d : ByteArray) (k : Nat) (hk : k < d.size) (h : (d.data.toList.take k).all textByte = true) (hb : textByte d[k] = true) : (d.data.toList.take (k + 1)).all textByte = true := by
  rw [take_snoc d k hk, List.all_append, h]; simp [hb]

theorem tb_a {c : UInt8} (h : ((!decide ((c.toNat : Int) ≤ 122)) = true ∧ (!decide ((c.toNat : Int) ≤ 57)) = true) ∧ ((c.toNat : Int) != 95) = true) : 122 < c.toNat ∧ 57 < c.toNat ∧ ¬ c.toNat = 95 := by
  simp at h; omega
theorem tb_b {c : UInt8} (h : (!decide ((c.toNat : Int) ≤ 57)) = true ∧ ((c.toNat : Int) != 95) = true) : 57 < c.toNat ∧ ¬ c.toNat = 95 := by
  simp at h; omega
theorem tb_c {c : UInt8} (h : ((c.toNat : Int) != 95) = true) : ¬ c.toNat = 95 := by
  simp at h; omega
theorem tb_d {c : UInt8} (h : ((!decide ((c.toNat : Int) ≤ 122)) = false ∨ (!decide ((c.toNat : Int) ≤ 57)) = false) ∨ ((c.toNat : Int) != 95) = false) : c.toNat ≤ 122 ∨ c.toNat ≤ 57 ∨ c.toNat = 95 := by
  simp at h; omega
theorem tb_e {c : UInt8} (h : (!decide ((c.toNat : Int) ≤ 57)) = false ∨ ((c.toNat : Int) != 95) = false) : c.toNat ≤ 57 ∨ c.toNat = 95 := by
  simp at h; omega
theorem tb_no {c : UInt8} (h1 : c.toNat < 97 ∨ 122 < c.toNat) (h2 : c.toNat < 48 ∨ 57 < c.toNat) (h3 : ¬ c.toNat = 95) : textByte c = false := by
  simp [textByte, h3]; omega
theorem tb_yes {c : UInt8} (h : (97 ≤ c.toNat ∧ c.toNat ≤ 122) ∨ (48 ≤ c.toNat ∧ c.toNat ≤ 57) ∨ c.toNat = 95) : textByte c = true := by
  simp [textByte]; omega

def ValAns (k : Option Bool) (e : Ending) : Prop := ∃ (n : Int) (S : ByteArray), e = .returned (.tuple #[.agg #[.bool (k == some true), .int .i64 n, .string S], .bool k.isSome])

theorem mid_extract (s : ByteArray) : (s.extract 1 (s.size - 1)).data.toList = midOf s.data.toList := by
  rw [extract_toList]; simp [midOf]

set_option maxRecDepth 10000 in
set_option maxHeartbeats 2000000 in
theorem readValue_any (s : ByteArray) (w : World) (hs : s.size ≤ 1048577) :
    Calls Tryz.prog 164 #[.string s] w fun e w' => ValAns (valKind s.data.toList) e ∧ Below w.heap.size w w' := by
  have hnum := fun w => number_any s w hs
  obtain ⟨kk, HK⟩ : ∃ kk, Hid (valKind s.data.toList = kk) := exHid _
  rw [HK.out]
  cases hn : isNum s.data.toList
  · rw [hn] at hnum
    have hk : (if isTextL s.data.toList then some true else none) = kk := by rw [← HK.out]; simp [valKind, hn]
    have HK2 : Hid _ := hk
    clear HK2 HK hn
    by_cases h2 : s.size < 2
    · rw [text_short h2] at hk
      simp only [Bool.false_eq_true, if_false] at hk
      subst hk
      go_enter Tryz.func164, Tryz.ntmps164
      go_wp2_with (go_at_call 215; refine (hnum _).mono ?_; rintro e w' ⟨⟨n, rfl⟩, rfl⟩)
      go_returns
      exact ⟨⟨_, _, rfl⟩, by go_grown⟩
    by_cases h14 : 14 < s.size
    · rw [text_long h14] at hk
      simp only [Bool.false_eq_true, if_false] at hk
      subst hk
      go_enter Tryz.func164, Tryz.ntmps164
      go_wp2_with (go_at_call 215; refine (hnum _).mono ?_; rintro e w' ⟨⟨n, rfl⟩, rfl⟩)
      go_returns
      exact ⟨⟨_, _, rfl⟩, by go_grown⟩
    have hpos : 0 < s.size := by omega
    by_cases h0 : s[0] = 39
    case neg =>
      rw [text_first hpos h0] at hk
      simp only [Bool.false_eq_true, if_false] at hk
      subst hk
      have h0p : ¬ (s[0].toNat : Int) = 39 := fun h => h0 (UInt8.toNat_inj.1 (by simp; omega))
      have h0' : ((s[0].toNat : Int) != 39) = true := by simpa using h0p
      clear h0
      go_enter Tryz.func164, Tryz.ntmps164
      go_wp2_with (go_at_call 215; refine (hnum _).mono ?_; rintro e w' ⟨⟨n, rfl⟩, rfl⟩)
      go_returns
      exact ⟨⟨_, _, rfl⟩, by go_grown⟩
    have h0' : (s[0].toNat : Int) = 39 := by simp [h0]
    have h0'' : ((s[0].toNat : Int) != 39) = false := by simp [h0]
    by_cases h1 : s[s.size - 1]'(by omega) = 39
    case neg =>
      rw [text_last hpos h1] at hk
      simp only [Bool.false_eq_true, if_false] at hk
      subst hk
      have h1p : ¬ ((s[s.size - 1]'(by omega)).toNat : Int) = 39 := fun h => h1 (UInt8.toNat_inj.1 (by simp; omega))
      have h1' : (((s[s.size - 1]'(by omega)).toNat : Int) != 39) = true := by simpa using h1p
      have h0n : ((s[0].toNat : Int) != 39) = false := by simp [h0]
      clear h0 h1
      go_enter Tryz.func164, Tryz.ntmps164
      go_wp2_with (go_at_call 215; refine (hnum _).mono ?_; rintro e w' ⟨⟨n, rfl⟩, rfl⟩)
      go_returns
      exact ⟨⟨_, _, rfl⟩, by go_grown⟩
    have h1' : ((s[s.size - 1]'(by omega)).toNat : Int) = 39 := by simp [h1]
    have h1'' : (((s[s.size - 1]'(by omega)).toNat : Int) != 39) = false := by simp [h1]
    have H0 : Hid _ := h0
    have H1 : Hid _ := h1
    have HK2 : Hid _ := hk
    clear hk h0 h1
    have hd := mid_extract s
    have hdz : (s.extract 1 (s.size - 1)).size ≤ 14 := by simp; omega
    go_enter Tryz.func164, Tryz.ntmps164
    go_wp2_with (go_at_call 215; refine (hnum _).mono ?_; rintro e w' ⟨⟨n, rfl⟩, rfl⟩)
    generalize s.extract 1 (s.size - 1) = d at *
    have HD : Hid _ := hd
    clear hd
    go_loop [7] (fun i => ∃ k : Nat, k ≤ d.size ∧ i = .int .i64 k ∧ (d.data.toList.take k).all textByte = true) (fun i => d.size - (intOf i).toNat)
    case atStart => exact ⟨0, Nat.zero_le _, rfl, rfl⟩
    case round =>
      obtain ⟨k, hk, rfl, hall⟩ := hrel
      have HA : Hid _ := hall
      clear hall
      by_cases hlt : k < d.size
      · obtain ⟨c, HC⟩ : ∃ c, Hid (d[k] = c) := exHid _
        have hc' : (d[k].toNat : Int) = c.toNat := by rw [HC.out]
        have hstep : textByte c = true → Hid ((d.data.toList.take (k + 1)).all textByte = true) := fun h => Hid.mk (all_snoc d k hlt HA.out (by rw [HC.out]; exact h))
        have hbad : textByte c = false → Hid (kk = none) := fun h => Hid.mk (by
          have := HK2.out
          rw [text_mid HD.out hlt (by rw [HC.out]; exact h)] at this
          exact this.symm)
        go_wp2
        case roundEnd =>
          refine ⟨⟨k + 1, by omega, by go_num, (hstep (tb_yes ?_)).out⟩, by simp [intOf]; omega⟩
          first
            | omega
            | (have hh := tb_d (by assumption); omega)
            | (have hh := tb_e (by assumption); omega)
        case roundEnd =>
          refine ⟨⟨k + 1, by omega, by go_num, (hstep (tb_yes ?_)).out⟩, by simp [intOf]; omega⟩
          first
            | omega
            | (have hh := tb_d (by assumption); omega)
            | (have hh := tb_e (by assumption); omega)
        case roundEnd =>
          refine ⟨⟨k + 1, by omega, by go_num, (hstep (tb_yes ?_)).out⟩, by simp [intOf]; omega⟩
          first
            | omega
            | (have hh := tb_d (by assumption); omega)
            | (have hh := tb_e (by assumption); omega)
        case roundEnd =>
          refine ⟨⟨k + 1, by omega, by go_num, (hstep (tb_yes ?_)).out⟩, by simp [intOf]; omega⟩
          first
            | omega
            | (have hh := tb_d (by assumption); omega)
            | (have hh := tb_e (by assumption); omega)
        all_goals
          have hR : Hid (kk = none) := hbad (by
            first
              | (have hh := tb_a (by assumption); exact tb_no (by omega) (by omega) (by omega))
              | (have hh := tb_b (by assumption); exact tb_no (by omega) (by omega) (by omega))
              | (have hh := tb_c (by assumption); exact tb_no (by omega) (by omega) (by omega)))
          obtain rfl := hR.out
          go_returns
          exact ⟨⟨_, _, rfl⟩, by go_grown⟩
      · have hk' : kk = some true := by
          have := HK2.out
          rw [text_yes HD.out (by omega) (by omega) H0.out H1.out (by have := HA.out; rwa [List.take_of_length_le (by simp; omega)] at this)] at this
          exact this.symm
        subst hk'
        go_wp2
        go_returns
        exact ⟨⟨_, _, rfl⟩, by go_grown⟩
  · rw [hn] at hnum
    have hk : some false = kk := by rw [← HK.out]; simp [valKind, hn]
    subst hk
    clear HK hn
    go_enter Tryz.func164, Tryz.ntmps164
    go_wp2_with (go_at_call 215; refine (hnum _).mono ?_; rintro e w' ⟨⟨n, rfl⟩, rfl⟩)
    go_returns
    exact ⟨⟨_, _, rfl⟩, by go_grown⟩
end Go.Proofs.YtnpjldffciociaaGreatDoor
