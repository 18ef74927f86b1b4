import Derived.Test.YtnpjldffciociaaGreatDoorR06
namespace Go.Proofs.YtnpjldffciociaaGreatDoor
open Go.RowKit

theorem append_grow {P : Program} {ops : Array Oper} {rest : List Oper} {o : Oper} {a : Act} {w : World} {Q : Exit → Act → World → Prop} (hgd : o.guard = none) (s x : Operand) (t : TypeId)
    (ho : o.op = .call { callee := .builtin .append, args := #[s, x], argTypes := #[t, t] })
    (base : Nat) (e : TypeId) (i : TypeInfo) (z : Value) (bytes : Nat) (ht : P.underlying t = some (.slice e)) (hi : P.info? e = some i) (hz : i.zero = some z)
    (hsize : i.size = 1) (hby : i.bytes = bytes) (hzs : z.cells.size = 1)
    (v : Value) (n : Nat) (xs : List Value) (hs : a.eval s = v) (hown : w.ownsRow base e 1 v n xs)
    (u : Value) (hx : a.eval x = .slice (some ⟨w.heap.size, 0, none⟩) 1 1) (h1 : u.oneCell' = true)
    (h63 : n + 1 ≤ maxLen) (hbytes : (n + 1) * bytes ≤ 140737488355328) (hbase : base ≤ w.heap.size)
    (h : ∀ v' w', w'.ownsRow base e 1 v' (n + 1) (xs ++ [u]) → (w.alloc (.cells #[u] e)).grownBy w' v.ownBlock → wpList P ops Q rest (a.put o.dst v') w') :
    wpList P ops Q (o :: rest) a (w.alloc (.cells #[u] e)) := by
  refine wpList_append_own _ hgd s x t ho base e i z 1 bytes ht hi hz hsize hby hzs (by decide) v n xs hs (hown.alloc _) ⟨w.heap.size, 0, none⟩ 1 1 [u] hx rfl ?_ ?_ h63 hbytes (by simp; omega) ?_
  · intro j y hj
    match j, hj with
    | 0, hj => simp at hj; subst hj; simp [Addr.add]
  · intro y hy
    simp at hy; subst hy; exact h1
  · intro v' w' h2 h3 _
    exact h v' w' h2 h3
theorem Tryz.infoStrs : (Tryz.prog.info? 26).map (fun i => (i.zero, i.size, i.bytes)) = some (some (.slice none 0 0), 1, 24) := by kernel_rfl

theorem own_str {w w' : World} {B base : Nat} {v : Value} {n : Nat} {xs : List Value} (h : w.ownsRow base 9 1 v n xs) (hk : Kp B w w') : w'.ownsRow base 9 1 v n xs := by
  obtain ⟨hl, ⟨rfl, rfl⟩ | ⟨g, cap, cur, rfl, hb1, hh, hr⟩⟩ := h
  · exact ⟨hl, .inl ⟨rfl, rfl⟩⟩
  · exact ⟨hl, .inr ⟨g, cap, cur, rfl, hb1, hk.str _ _ _ hh, hr⟩⟩
/-- Rules, each as its words. -/
def LsOwn (w : World) (B : Nat) (v : Value) (ls : List (List (List UInt8))) : Prop :=
  ∃ lvs : List Value, lvs.length = ls.length ∧ w.ownsRow B 26 1 v ls.length lvs ∧ ∀ (k : Nat) (u : Value) (ws : List (List UInt8)), lvs[k]? = some u → ls[k]? = some ws → w.ownsRow B 9 1 u ws.length (ws.map fun l => .string (bs l))
theorem LsOwn.nil (w : World) (B : Nat) : LsOwn w B (.slice none 0 0) [] := ⟨[], rfl, ⟨rfl, .inl ⟨rfl, rfl⟩⟩, fun k u ws h => by simp at h⟩
theorem LsOwn.below {w w' : World} {B : Nat} {v : Value} {ls : List (List (List UInt8))} (h : LsOwn w B v ls) (hb : Below w.heap.size w w') : LsOwn w' B v ls := by
  obtain ⟨lvs, h1, h2, h3⟩ := h
  exact ⟨lvs, h1, owns_below h2 hb, fun k u ws hu hw => owns_below (h3 k u ws hu hw) hb⟩
/-- One rule more. -/
theorem LsOwn.snoc {w w3 : World} {B : Nat} {v v' vw : Value} {ls : List (List (List UInt8))} {ws : List (List UInt8)} {lvs : List Value} {o : Obj} (h1 : lvs.length = ls.length) (h2 : w.ownsRow B 26 1 v ls.length lvs) (h3 : ∀ (k : Nat) (u : Value) (ws : List (List UInt8)), lvs[k]? = some u → ls[k]? = some ws → w.ownsRow B 9 1 u ws.length (ws.map fun l => .string (bs l)))
    (hw : w.ownsRow B 9 1 vw ws.length (ws.map fun l => .string (bs l))) (hB : B ≤ w.heap.size) (ho : w3.ownsRow B 26 1 v' (ls.length + 1) (lvs ++ [vw])) (hg : (w.alloc o).grownBy w3 v.ownBlock) : LsOwn w3 B v' (ls ++ [ws]) ∧ Kp B w w3 := by
  have ha : Below w.heap.size w (w.alloc o) := (Below.refl _ _).alloc (Nat.le_refl _) _
  have hoa := owns_below h2 ha
  have hs : ∀ (k : Nat) (cs : Array Value) (fz : Nat × Nat), w.heap[k]? = some (.cells cs 9 fz) → w3.heap[k]? = some (.cells cs 9 fz) := by
    intro k cs fz hk
    have hk2 : k < w.heap.size := (Array.getElem?_eq_some_iff.1 hk).1
    have hka := (ha.block k hk2).trans hk
    refine (hg.block k (by simp; omega) fun e => ?_).trans hka
    obtain ⟨⟨cur, hc⟩, _⟩ := own_type hoa e.symm
    have := hka.symm.trans hc
    simp at this
  have hkp : Kp B w w3 := ⟨((Below.refl B w).alloc hB o).grown hg (by simp; omega) (fun k hk => by have := own_ge hoa hk; omega), hs⟩
  refine ⟨⟨lvs ++ [vw], by simp [h1], by simpa using ho, fun k u xs hu hx => ?_⟩, hkp⟩
  by_cases hlt : k < ls.length
  · exact own_str (h3 k u xs (by rw [List.getElem?_append_left (by omega)] at hu; exact hu) (by rw [List.getElem?_append_left hlt] at hx; exact hx)) hkp
  · have hk : k = ls.length := by
      have := (List.getElem?_eq_some_iff.1 hx).1
      simp at this; omega
    subst hk
    have e1 : xs = ws := by simpa using hx.symm
    have e2 : u = vw := by
      rw [← h1] at hu
      simpa using hu.symm
    subst e1 e2
    exact own_str hw hkp
/-- Two masks of one column. -/
def dupW (a ws : List (List UInt8)) : Bool := wordAt a 0 == wMask && wordAt ws 0 == wMask && wordAt a 1 == wordAt ws 1 && wordAt a 2 == wordAt ws 2
/-- The rules, by the document. -/
def lawR (ts : List (List UInt8 × List Bool)) : Nat → List (List (List UInt8)) → List (List UInt8) → Bool
  | _, _, [] => true
  | n, ls, p :: r => ruleR ts (spl 32 p) && decide (n + (spl 32 p).length ≤ 60) && !(ls.any fun a => dupW a (spl 32 p)) && lawR ts (n + (spl 32 p).length) (ls ++ [spl 32 p]) r
theorem ruleR_len {ts : List (List UInt8 × List Bool)} {ws : List (List UInt8)} (hn : ∀ t ∈ ts, t.1 ≠ []) (h : ruleR ts ws = true) : 1 < ws.length ∧ (wordAt ws 0 = wMask → 3 < ws.length) := by
  unfold ruleR at h
  split at h
  · cases h
  · rename_i t ht
    refine ⟨(findT_word hn ht).1, fun e => ?_⟩
    rw [if_neg (by rw [e]; decide), if_pos e] at h
    split at h
    · cases h
    · split at h
      · cases h
      · rename_i b hb
        exact valKind_lt hb
end Go.Proofs.YtnpjldffciociaaGreatDoor
namespace Go.Proofs.YtnpjldffciociaaGreatDoor
open Go.RowKit

theorem own_cells {w : World} {B : Nat} {e : TypeId} {v : Value} {n : Nat} {xs : List Value} (h : w.ownsRow B e 1 v n xs) (hn : 0 < n) : ∃ g cap, v = .slice (some ⟨g, 0, none⟩) n cap ∧ g < w.heap.size ∧ ∀ (j : Nat) u, xs[j]? = some u → w.cell? ⟨g, j, none⟩ = some u := by
  obtain ⟨hl, ⟨rfl, rfl⟩ | ⟨g, cap, cur, rfl, hb1, hh, hc, hm, hs, ht⟩⟩ := h
  · omega
  · refine ⟨g, cap, rfl, (Array.getElem?_eq_some_iff.1 hh).1, fun j u hj => ?_⟩
    rw [Lib.cell_of_heap hh]
    rw [← ht] at hj
    have hjl := (List.getElem?_eq_some_iff.1 hj).1
    rw [List.getElem?_take_of_lt (by simp at hjl; omega)] at hj
    simpa using hj
theorem own_words {w : World} {B : Nat} {e : TypeId} {v : Value} {ws : List (List UInt8)} (h : w.ownsRow B e 1 v ws.length (ws.map fun l => .string (bs l))) (hn : 0 < ws.length) : ∃ g cap, v = .slice (some ⟨g, 0, none⟩) ws.length cap ∧ g < w.heap.size ∧ ∀ (j : Nat), j < ws.length → w.cell? ⟨g, j, none⟩ = some (.string (bs (wordAt ws j))) := by
  obtain ⟨g, cap, h1, h2, h3⟩ := own_cells h hn
  exact ⟨g, cap, h1, h2, fun j hj => h3 j _ (by simp [wordAt, hj])⟩
theorem ruleR_pos (l : List UInt8) : 0 < (spl 32 l).length := List.length_pos_iff.2 (spl_ne_nil 32 l)
theorem lr_no {ts : List (List UInt8 × List Bool)} {n : Nat} {ls : List (List (List UInt8))} {p : List UInt8} {r : List (List UInt8)} (h : ruleR ts (spl 32 p) = false ∨ 60 < n + (spl 32 p).length) : lawR ts n ls (p :: r) = false := by
  rw [lawR]
  rcases h with h | h
  · simp [h]
  · have : ¬ n + (spl 32 p).length ≤ 60 := by omega
    simp [this]
theorem lr_dup {ts : List (List UInt8 × List Bool)} {n q : Nat} {ls : List (List (List UInt8))} {p : List UInt8} {r : List (List UInt8)} (hq : q < ls.length) (h : dupW ls[q] (spl 32 p) = true) : lawR ts n ls (p :: r) = false := by
  have : (ls.any fun a => dupW a (spl 32 p)) = true := List.any_eq_true.2 ⟨ls[q], List.getElem_mem hq, h⟩
  rw [lawR]
  simp only [this, Bool.not_true, Bool.and_false, Bool.false_and]
theorem lr_more {ts : List (List UInt8 × List Bool)} {n : Nat} {ls : List (List (List UInt8))} {p : List UInt8} {r : List (List UInt8)} (h1 : ruleR ts (spl 32 p) = true) (h2 : n + (spl 32 p).length ≤ 60) (h3 : ∀ q (h : q < ls.length), dupW ls[q] (spl 32 p) = false) : lawR ts n ls (p :: r) = lawR ts (n + (spl 32 p).length) (ls ++ [spl 32 p]) r := by
  have h4 : (ls.any fun a => dupW a (spl 32 p)) = false := by
    rw [List.any_eq_false]
    intro a ha
    obtain ⟨q, hq, rfl⟩ := List.mem_iff_getElem.1 ha
    simp [h3 q hq]
  rw [lawR]
  simp [h1, h2, h4]

set_option maxRecDepth 10000 in
set_option maxHeartbeats 1000000 in
theorem rlaw_empty (v : Value) (w : World) :
    Calls Tryz.prog 65 #[v, .string ByteArray.empty] w fun e w' => (∃ v, e = .returned (.tuple #[v, .bool true])) ∧ Below w.heap.size w w' := by
  go_enter Tryz.func65, Tryz.ntmps65
  go_wp2
  go_ret2
  exact ⟨⟨_, rfl⟩, Below.refl _ _⟩

set_option maxRecDepth 10000 in
set_option maxHeartbeats 8000000 in
theorem rlaw_go (vs : Value) (ts : List (List UInt8 × List Bool)) (s : ByteArray) (w : World) (he : s.toList.isEmpty = false) (hok : TabsOk ts) (hts : ReadsTabs Value.bool w vs ts) (hs : s.size ≤ 1048576) :
    Calls Tryz.prog 65 #[vs, .string s] w fun e w' => (∃ v, e = .returned (.tuple #[v, .bool (lawR ts 0 [] (spl 59 s.data.toList))])) ∧ Below w.heap.size w w' := by
  obtain ⟨i0, hi0, hz0, hz1, hz2⟩ := info_parts Tryz.infoStrs
  have hsp := split_any s 59 w (by omega)
  have hlen := spl_length_le 59 s.data.toList
  have hml := spl_mem_length 59 s.data.toList
  have hl2 : s.data.toList.length ≤ 1048576 := by simpa using hs
  have hpl : (spl 59 s.data.toList).length ≤ 1048577 := by omega
  have hpp : 0 < (spl 59 s.data.toList).length := List.length_pos_iff.2 (spl_ne_nil 59 _)
  have HM : Hid (∀ x ∈ spl 59 s.data.toList, x.length ≤ 1048576) := Hid.mk fun x hx => Nat.le_trans (hml x hx) hl2
  obtain ⟨R, HR⟩ : ∃ R, Hid (lawR ts 0 [] (spl 59 s.data.toList) = R) := exHid _
  rw [HR.out]
  have HOK : Hid (TabsOk ts) := Hid.mk hok
  have HTS : Hid (ReadsTabs Value.bool w vs ts) := Hid.mk hts
  clear hlen hml hl2 hok hts
  generalize spl 59 s.data.toList = ps at *
  go_enter Tryz.func65, Tryz.ntmps65
  go_wp2_with (go_at_call 103; refine hsp.mono ?_; rintro e w1 ⟨vp, rfl, hownp, hbp⟩; obtain ⟨gp, capp, rfl, hgp, hcp⟩ := own_words hownp hpp)
  have HP0 : Hid (w1.ownsRow w.heap.size 9 1 (.slice (some ⟨gp, 0, none⟩) ps.length capp) ps.length (ps.map fun l => .string (bs l))) := Hid.mk hownp
  have HBP : Hid (Below w.heap.size w w1) := Hid.mk hbp
  clear hcp hownp hsp hbp
  go_loopw [6, 8, 9] (fun l nn i wr => ∃ (k n : Nat) (ls : List (List (List UInt8))), k ≤ ps.length ∧ ls.length = k ∧ n ≤ 60 ∧ nn = .int .i64 n ∧ i = .int .i64 k ∧ R = lawR ts n ls (ps.drop k) ∧ LsOwn wr w.heap.size l ls ∧ (∀ a ∈ ls, ruleR ts a = true) ∧ Kp w.heap.size w1 wr) (fun _ _ i _ => ps.length - (intOf i).toNat)
  case atStart => exact ⟨0, 0, [], Nat.zero_le _, rfl, by omega, rfl, rfl, HR.out.symm, LsOwn.nil _ _, by simp, ⟨Below.refl _ _, fun _ _ _ h => h⟩⟩
  case round =>
    obtain ⟨k, n, ls, hk, hal, hn60, rfl, rfl, hgo, hls, hall, hkp⟩ := hrel
    have HG : Hid _ := hgo
    have HAL : Hid _ := hal
    have HLS : Hid (LsOwn wr w.heap.size _ ls) := Hid.mk hls
    have HALL : Hid (∀ a ∈ ls, ruleR ts a = true) := Hid.mk hall
    have HK : Hid (Kp w.heap.size w1 wr) := Hid.mk hkp
    clear hgo hal hall hkp
    have hsz := HK.out.bel.size
    have hszw := HBP.out.size
    have hBw : Hid (Below w.heap.size w wr) := Hid.mk (HBP.out.trans HK.out.bel)
    by_cases hlt : k < ps.length
    · obtain ⟨p, HP⟩ : ∃ p, Hid (ps[k] = p) := exHid _
      have hpl2 : p.length ≤ 1048576 := by rw [← HP.out]; exact HM.out _ (List.getElem_mem hlt)
      have hcp : wr.cell? ⟨gp, k, none⟩ = some (.string (bs p)) := by
        obtain ⟨g', cap', e, hg', hc'⟩ := own_words (own_str HP0.out HK.out) hpp
        obtain ⟨rfl, rfl⟩ : gp = g' ∧ capp = cap' := by simpa using e
        have := hc' k hlt
        rwa [show wordAt ps k = p by rw [← HP.out]; simp [wordAt, hlt]] at this
      have hsp2 := split_any (bs p) 32 wr (by simp; omega)
      rw [bs_toList] at hsp2
      have hwpos := ruleR_pos p
      have hwn := spl_length_le 32 p
      have hwm := spl_mem_length 32 p
      have HD : Hid (R = lawR ts n ls (p :: ps.drop (k + 1))) := Hid.mk (by rw [HG.out, List.drop_eq_getElem_cons hlt, HP.out])
      have HNO : Hid (ruleR ts (spl 32 p) = false ∨ 60 < n + (spl 32 p).length → R = false) := Hid.mk fun h => by rw [HD.out]; exact lr_no h
      have HDU : Hid (∀ q (h : q < ls.length), dupW ls[q] (spl 32 p) = true → R = false) := Hid.mk fun q h hd => by rw [HD.out]; exact lr_dup h hd
      have HMO : Hid (ruleR ts (spl 32 p) = true → n + (spl 32 p).length ≤ 60 → (∀ q (h : q < ls.length), dupW ls[q] (spl 32 p) = false) → R = lawR ts (n + (spl 32 p).length) (ls ++ [spl 32 p]) (ps.drop (k + 1))) := Hid.mk fun h1 h2 h3 => by rw [HD.out]; exact lr_more h1 h2 h3
      clear HD HG
      generalize spl 32 p = ws at *
      have HWL : Hid (∀ j, (wordAt ws j).length ≤ 1048577) := Hid.mk fun j => by
        by_cases hj : j < ws.length
        · have e : wordAt ws j = ws[j] := by simp [wordAt, hj]
          rw [e]; have := hwm _ (List.getElem_mem hj); omega
        · have e : wordAt ws j = [] := by simp [wordAt, hj]
          rw [e]; simp
      have hrule : ∀ (W : World) (v : Value), Below wr.heap.size wr W → Reads W v (ws.map fun l => .string (bs l)) → Calls Tryz.prog 110 #[vs, v] W fun e w' => e = .returned (.bool (ruleR ts ws)) ∧ Below W.heap.size W w' :=
        fun W v hb hr => isRule_any vs v ts ws W HOK.out hwpos (by omega) HWL.out (HTS.out.below (hBw.out.trans (hb.mono hBw.out.size))) hr
      clear hwm
      have hwn2 : ws.length ≤ 1048577 := by omega
      have hki : 0 ≤ (k : Int) ∧ (k : Int) < (ps.length : Int) := by omega
      have hbw0 := hBw.out.size
      cases hrb : ruleR ts ws
      · rw [hrb] at hrule
        have hRN : Hid (R = false) := Hid.mk (HNO.out (Or.inl hrb))
        clear hrb HNO HDU HMO HLS hls
        go_wp2_with (first
          | (go_at_call 103; refine hsp2.mono ?_; rintro e wa ⟨vw, rfl, how, hba⟩; obtain ⟨gw, capw, rfl, hgw, hcw⟩ := own_words how hwpos; have hrd := Reads.of_owns how; have HRD : Hid _ := hrd; clear hrd hcw how)
          | (go_at_call 110; refine (hrule _ _ hba HRD.out).mono ?_; rintro e wb ⟨rfl, hbb⟩))
        go_ret2
        rw [hRN.out]
        exact ⟨⟨_, rfl⟩, (hBw.out.trans (hba.mono hbw0)).trans (hbb.mono (Nat.le_trans hbw0 hba.size))⟩
      · rw [hrb] at hrule
        by_cases h60 : 60 < n + ws.length
        · have hRN : Hid (R = false) := Hid.mk (HNO.out (Or.inr h60))
          clear hrb HNO HDU HMO HLS hls
          have h60i : (60 : Int) < (n : Int) + (ws.length : Int) := by omega
          go_wp2_with (first
            | (go_at_call 103; refine hsp2.mono ?_; rintro e wa ⟨vw, rfl, how, hba⟩; obtain ⟨gw, capw, rfl, hgw, hcw⟩ := own_words how hwpos; have hrd := Reads.of_owns how; have HRD : Hid _ := hrd; clear hrd hcw how)
            | (go_at_call 110; refine (hrule _ _ hba HRD.out).mono ?_; rintro e wb ⟨rfl, hbb⟩))
          go_ret2
          rw [hRN.out]
          exact ⟨⟨_, rfl⟩, (hBw.out.trans (hba.mono hbw0)).trans (hbb.mono (Nat.le_trans hbw0 hba.size))⟩
        · have HMO2 : Hid ((∀ q (h : q < ls.length), dupW ls[q] ws = false) → R = lawR ts (n + ws.length) (ls ++ [ws]) (ps.drop (k + 1))) := Hid.mk (HMO.out hrb (by omega))
          have HRB : Hid (ruleR ts ws = true) := Hid.mk hrb
          obtain ⟨hw1l, hw3l⟩ := ruleR_len HOK.out.named hrb
          have HW3 : Hid _ := hw3l
          clear hrb HNO HMO hls hw3l
          have h60i : (n : Int) + (ws.length : Int) ≤ 60 := by omega
          go_wp2_with (first
            | (go_at_call 103; refine hsp2.mono ?_; rintro e wa ⟨vw, rfl, how, hba⟩; obtain ⟨gw, capw, rfl, hgw, hcw⟩ := own_words how hwpos; have hrd := Reads.of_owns how; have HRD : Hid _ := hrd; have HOW : Hid _ := how; have HCW : Hid _ := hcw; clear hrd hcw how)
            | (go_at_call 110; refine (hrule _ _ hba HRD.out).mono ?_; rintro e wb ⟨rfl, hbb⟩))
          have hbw2 : Below wr.heap.size wr wb := hba.trans (hbb.mono hba.size)
          obtain ⟨lvs, hlv, hlo, hlw⟩ := HLS.out.below hbw2
          obtain ⟨al, capl, rfl, _⟩ := Reads.of_owns hlo
          rw [hlv] at hlo ⊢
          have HLO : Hid _ := hlo
          have HLW : Hid _ := hlw
          have HCB : Hid (∀ (j : Nat), j < ws.length → wb.cell? ⟨gw, j, none⟩ = some (.string (bs (wordAt ws j)))) := Hid.mk fun j hj => (hbb.cell (p := ⟨gw, j, none⟩) hgw).trans (HCW.out j hj)
          have HBB : Hid _ := hbb
          have HBA : Hid _ := hba
          have HB2 : Hid _ := hbw2
          have hgwb : gw < wb.heap.size := Nat.lt_of_lt_of_le hgw hbb.size
          clear hlo hlw hrule hsp2 hcp hbb hba hbw2 HCW HRD
          generalize wr = wo at *
          go_loopw [12] (fun j wi => ∃ (q m : Nat), q ≤ ls.length ∧ j = .int .i64 q ∧ (∀ r (h : r < ls.length), r < q → dupW ls[r] ws = false) ∧ wi = wb.drewN m) (fun j _ => ls.length - (intOf j).toNat)
          case atStart => exact ⟨0, 0, Nat.zero_le _, rfl, fun r _ h => absurd h (Nat.not_lt_zero _), rfl⟩
          case round =>
            obtain ⟨q, m, hq, rfl, hnd, rfl⟩ := hrel
            have HND : Hid _ := hnd
            clear hnd
            have hlen100 := HAL.out
            by_cases hql : q < ls.length
            · obtain ⟨a, HA⟩ : ∃ a, Hid (ls[q] = a) := exHid _
              obtain ⟨ha1, ha3⟩ := ruleR_len HOK.out.named (HALL.out a (by rw [← HA.out]; exact List.getElem_mem hql))
              obtain ⟨gl, cl, e, hgl, hcl⟩ := own_cells HLO.out (by omega)
              obtain ⟨rfl, rfl⟩ : al = some ⟨gl, 0, none⟩ ∧ capl = cl := by simpa using e
              obtain ⟨ga, capa, hue, hga, hca⟩ := own_words (HLW.out q (lvs[q]'(by omega)) a (List.getElem?_eq_getElem _) (by rw [List.getElem?_eq_getElem hql, HA.out])) (by omega)
              have cl0 := hcl q _ (List.getElem?_eq_getElem (by omega))
              rw [hue] at cl0
              have ca0 := hca 0 (by omega)
              have ca1 := hca 1 (by omega)
              have cw0 := HCB.out 0 (by omega)
              have cw1 := HCB.out 1 (by omega)
              have HDU2 : Hid (dupW a ws = true → R = false) := Hid.mk fun h => HDU.out q hql (by rw [HA.out]; exact h)
              have HST : Hid (dupW a ws = false → ∀ r (h : r < ls.length), r < q + 1 → dupW ls[r] ws = false) := Hid.mk fun h r hr hrq => by
                by_cases e : r = q
                · subst e; rw [HA.out]; exact h
                · exact HND.out r hr (by omega)
              have hqi : 0 ≤ (q : Int) ∧ (q : Int) < (ls.length : Int) := by omega
              have hbs := bs_toList2
              clear hcl e
              cases h1 : (wordAt a 0 == wMask)
              · have HF := HST.out (by simp [dupW, h1])
                have HF2 : Hid _ := HF
                clear HF ha3 hca
                go_wp2
                go_quiet (fail)
                go_wp2
                go_roundw
                case rel => exact ⟨q + 1, m + nq, by omega, by go_num, HF2.out, by first | rfl | simp⟩
                case measure => simp [intOf]; omega
              · have ha3' := ha3 (by simpa using h1)
                have ca2 := hca 2 (by omega)
                clear ha3 hca
                cases h2 : (wordAt ws 0 == wMask)
                · have HF2 : Hid (∀ r (h : r < ls.length), r < q + 1 → dupW ls[r] ws = false) := Hid.mk (HST.out (by simp [dupW, h2]))
                  go_wp2
                  go_quiet (fail)
                  go_wp2
                  go_roundw
                  case rel => exact ⟨q + 1, m + nq, by omega, by go_num, HF2.out, by first | rfl | simp⟩
                  case measure => simp [intOf]; omega
                · have hw3' := HW3.out (by simpa using h2)
                  have cw2 := HCB.out 2 (by omega)
                  cases h3 : (wordAt a 1 == wordAt ws 1)
                  · have HF2 : Hid (∀ r (h : r < ls.length), r < q + 1 → dupW ls[r] ws = false) := Hid.mk (HST.out (by simp [dupW, h3]))
                    go_wp2
                    go_quiet (fail)
                    go_wp2
                    go_roundw
                    case rel => exact ⟨q + 1, m + nq, by omega, by go_num, HF2.out, by first | rfl | simp⟩
                    case measure => simp [intOf]; omega
                  · cases h4 : (wordAt a 2 == wordAt ws 2)
                    · have HF2 : Hid (∀ r (h : r < ls.length), r < q + 1 → dupW ls[r] ws = false) := Hid.mk (HST.out (by simp [dupW, h4]))
                      go_wp2
                      go_quiet (fail)
                      go_wp2
                      go_roundw
                      case rel => exact ⟨q + 1, m + nq, by omega, by go_num, HF2.out, by first | rfl | simp⟩
                      case measure => simp [intOf]; omega
                    · have HRN : Hid (R = false) := Hid.mk (HDU2.out (by simp only [dupW, h1, h2, h3, h4]; rfl))
                      go_wp2
                      go_quiet (fail)
                      go_wp2
                      go_ret2
                      rw [HRN.out]
                      exact ⟨⟨_, rfl⟩, belowN (belowN ((hBw.out.trans (HBA.out.mono hbw0)).trans (HBB.out.mono (Nat.le_trans hbw0 HBA.out.size))) m) _⟩
            · have HR2 : Hid (R = lawR ts (n + ws.length) (ls ++ [ws]) (ps.drop (k + 1))) := Hid.mk (HMO2.out fun r h => HND.out r h (by omega))
              have HOWB : Hid (wb.ownsRow w.heap.size 9 1 (.slice (some ⟨gw, 0, none⟩) ws.length capw) ws.length (ws.map fun l => .string (bs l))) := Hid.mk (owns_base (owns_below HOW.out HBB.out) hbw0)
              have hlo := HLO.out
              have hbwb : w.heap.size ≤ (wb.drewN m).heap.size := by have := HB2.out.size; simp; omega
              have hlom : (wb.drewN m).ownsRow w.heap.size 26 1 (.slice al ls.length capl) ls.length lvs := hlo
              clear hlo HW3 HND HMO2 HDU
              go_wp2_with (at_builtin; refine append_grow rfl _ _ 125 rfl w.heap.size 26 i0 (.slice none 0 0) 24 Tryz.underlying125 hi0 hz0 hz1 hz2 rfl _ _ _ rfl hlom (.slice (some ⟨gw, 0, none⟩) ws.length capw) rfl rfl (by unfold maxLen; omega) (by omega) hbwb ?_; intro v6 w6 hown6 hgrow6)
              go_roundw
              case rel =>
                obtain ⟨hL6, hK6⟩ := LsOwn.snoc (w := wb.drewN m) hlv hlom HLW.out HOWB.out hbwb hown6 hgrow6
                refine ⟨k + 1, n + ws.length, ls ++ [ws], by omega, by simp [hlen100], by omega, by go_num, by go_num, HR2.out, hL6, ?_, ?_⟩
                · intro a ha
                  rcases List.mem_append.1 ha with ha | ha
                  · exact HALL.out a ha
                  · simp at ha; subst ha; exact HRB.out
                · exact (HK.out.trans (Kp.of_below (belowN HB2.out m) hbw0)).trans hK6
              case measure => simp [intOf]; omega
    · have hd : ps.drop k = [] := List.drop_of_length_le (by omega)
      have hR : Hid (R = true) := Hid.mk (by rw [HG.out, hd]; rfl)
      obtain ⟨lvs, g1, g2, _⟩ := hls
      obtain ⟨al, capl, rfl, _⟩ := Reads.of_owns g2
      clear g1 g2
      go_wp2
      go_ret2
      rw [hR.out]
      exact ⟨⟨_, rfl⟩, hBw.out⟩
end Go.Proofs.YtnpjldffciociaaGreatDoor
namespace Go.Proofs.YtnpjldffciociaaGreatDoor
open Go.RowKit

/-- What the document's Law takes. -/
def lawD (ts : List (List UInt8 × List Bool)) (l : List UInt8) : Bool := l.isEmpty || lawR ts 0 [] (spl 59 l)
theorem rlaw_any (vs : Value) (ts : List (List UInt8 × List Bool)) (s : ByteArray) (w : World) (hok : TabsOk ts) (hts : ReadsTabs Value.bool w vs ts) (hs : s.size ≤ 1048576) :
    Calls Tryz.prog 65 #[vs, .string s] w fun e w' => (∃ v, e = .returned (.tuple #[v, .bool (lawD ts s.data.toList)])) ∧ Below w.heap.size w w' := by
  have htl : s.toList = s.data.toList := ByteArray.toList_eq s
  unfold lawD
  by_cases h0 : s.data.toList = []
  · have e : s = ByteArray.empty := by
      cases s with | mk d => simp at h0; subst h0; rfl
    subst e
    exact rlaw_empty vs w
  · have h0' : s.data.toList.isEmpty = false := by simpa using h0
    rw [h0', Bool.false_or]
    exact rlaw_go vs ts s w (by rw [htl]; exact h0') hok hts hs
set_option maxRecDepth 10000 in
set_option maxHeartbeats 1000000 in
theorem rcl_schema (a b : ByteArray) (w : World)
    (h1 : Calls Tryz.prog 61 #[.string a] w fun e w' => (∃ v, e = .returned (.tuple #[v, .bool false])) ∧ Below w.heap.size w w') :
    Calls Tryz.prog 37 #[.string a, .string b] w fun e w' => e = .returned (.int .i64 1) ∧ Below w.heap.size w w' := by
  go_enter Tryz.func37, Tryz.ntmps37
  go_wp2_with (go_at_call 61; refine h1.mono ?_; rintro e w1 ⟨⟨v, rfl⟩, hb1⟩)
  go_ret
  exact ⟨rfl, hb1⟩
set_option maxRecDepth 10000 in
set_option maxHeartbeats 1000000 in
theorem rcl_law (a b : ByteArray) (w : World) (ok : Bool) (n : Int) (hn : n = (match ok with | true => 0 | false => 4)) (P : World → Value → Prop)
    (h1 : Calls Tryz.prog 61 #[.string a] w fun e w' => (∃ v, e = .returned (.tuple #[v, .bool true]) ∧ P w' v) ∧ Below w.heap.size w w')
    (h2 : ∀ w1 v, P w1 v → Calls Tryz.prog 65 #[v, .string b] w1 fun e w' => (∃ v, e = .returned (.tuple #[v, .bool ok])) ∧ Below w1.heap.size w1 w') :
    Calls Tryz.prog 37 #[.string a, .string b] w fun e w' => e = .returned (.int .i64 n) ∧ Below w.heap.size w w' := by
  cases ok
  all_goals
    simp only at hn
    subst hn
    go_enter Tryz.func37, Tryz.ntmps37
    go_wp2_with (first
      | (go_at_call 61; refine h1.mono ?_; rintro e w1 ⟨⟨v, rfl, hP⟩, hb1⟩)
      | (go_at_call 65; refine (h2 _ _ hP).mono ?_; rintro e w2 ⟨⟨v2, rfl⟩, hb2⟩))
    go_ret
    exact ⟨rfl, hb1.trans (hb2.mono hb1.size)⟩
/-- What CheckLaw answers, by the document. -/
def lawNumD (a b : List UInt8) : Int :=
  match schemaP a with
  | none => 1
  | some ts => match lawD ts b with
    | true => 0
    | false => 4
/-- THE DOCUMENT's CheckLaw. -/
theorem ref_checkLaw (a b : ByteArray) (w : World) (ha : a.size ≤ 1048576) (hb : b.size ≤ 1048576) :
    Calls Tryz.prog 37 #[.string a, .string b] w fun e w' => e = .returned (.int .i64 (lawNumD a.data.toList b.data.toList)) ∧ Below w.heap.size w w' := by
  have hsc := schema_any a w ha
  unfold lawNumD
  cases hs : schemaP a.data.toList with
  | none =>
    rw [hs] at hsc
    refine rcl_schema a b w (hsc.mono ?_)
    rintro e w' ⟨⟨v, g1, _⟩, g2⟩
    exact ⟨⟨v, g1⟩, g2⟩
  | some ts =>
    rw [hs] at hsc
    refine rcl_law a b w (lawD ts b.data.toList) _ rfl (fun w1 v => ReadsTabs Value.bool w1 v ts) (hsc.mono ?_) fun w1 v hv => rlaw_any v ts b w1 (schemaP_tabs hs) hv hb
    rintro e w' ⟨⟨v, g1, g3⟩, g2⟩
    exact ⟨⟨v, g1, g3 ts rfl⟩, g2⟩
end Go.Proofs.YtnpjldffciociaaGreatDoor
