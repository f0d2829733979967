/- nfa's wrong and census.count: how many nodes, whether one is wrong. -/
import Derived.Test.YtgcbcdbfeaepkaaOi
namespace Go.Proofs.Ytgcbcdbfeaepkaa
open Go.RowKit Go.Maps

/-- Is a node of this kind, with so many kids, wrong? -/
def wrong1 (k : Int) (n : Nat) : Bool := if k = 1 ∨ k = 2 ∨ k = 3 then false else if k = 4 ∨ k = 5 ∨ k = 6 then n == 0 else true
def wrongT : Nat → Tr → Bool
  | 0, _ => true
  | d + 1, .mk k _ kids => wrong1 k kids.length || kids.any (wrongT d)
/-- How deep a tree is. -/
def highT : Nat → Tr → Nat
  | 0, _ => 0
  | d + 1, .mk _ _ kids => 1 + (kids.map (highT d)).foldr max 0
theorem foldr_max_le {l : List Nat} {x : Nat} (h : x ∈ l) : x ≤ l.foldr max 0 := by
  induction l with
  | nil => exact nomatch h
  | cons a l ih =>
    rw [List.foldr_cons]
    rcases List.mem_cons.1 h with rfl | h
    · exact Nat.le_max_left _ _
    · exact Nat.le_trans (ih h) (Nat.le_max_right _ _)
theorem good_of : ∀ (d : Nat) (t : Tr), wrongT d t = false → GoodT d t
  | 0, _, h => by cases h
  | d + 1, .mk k rs kids, h => by
    unfold wrongT at h
    rw [Bool.or_eq_false_iff] at h
    obtain ⟨h1, h2⟩ := h
    have hk : ∀ t, t ∈ kids → GoodT d t := fun t ht => good_of d t (by
      rw [List.any_eq_false] at h2
      have := h2 t ht
      simpa using this)
    unfold wrong1 at h1
    by_cases a : k = 1 ∨ k = 2 ∨ k = 3
    · exact ⟨by omega, by omega, fun h => by omega, hk⟩
    · rw [if_neg a] at h1
      by_cases b : k = 4 ∨ k = 5 ∨ k = 6
      · rw [if_pos b] at h1
        refine ⟨by omega, by omega, fun _ e => ?_, hk⟩
        subst e
        cases h1
      · rw [if_neg b] at h1; cases h1
theorem good_wrong : ∀ (d : Nat) (t : Tr), GoodT d t → wrongT d t = false
  | 0, _, h => h.elim
  | d + 1, .mk k rs kids, ⟨g1, g2, g3, g4⟩ => by
    unfold wrongT
    rw [Bool.or_eq_false_iff]
    refine ⟨?_, ?_⟩
    · unfold wrong1
      by_cases a : k = 1 ∨ k = 2 ∨ k = 3
      · rw [if_pos a]
      · rw [if_neg a, if_pos (by omega)]
        have := g3 (by omega)
        match kids, this with
        | _ :: _, _ => rfl
    · rw [List.any_eq_false]
      intro t ht
      rw [good_wrong d t (g4 t ht)]; simp
set_option maxHeartbeats 400000 in
set_option maxRecDepth 100000 in
theorem nwrong_any (k : Int) (A A' : Option Addr) (n c n' c' : Nat) (w : World) : Calls Try.prog 81 #[.agg #[.int .i64 k, .slice A n c, .slice A' n' c']] w fun e w' => e = .returned (.bool (wrong1 k n')) ∧ Below w.heap.size w w' := by
  have hb := Lib.hid ((Below.refl w.heap.size w).alloc (Nat.le_refl _) (.cells #[.int .i64 k, .slice A n c, .slice A' n' c'] 25))
  have hz := Lib.hid (show ((n' : Int) == 0) = (n' == 0) by rw [Bool.eq_iff_iff]; simp)
  by_cases h1 : k = 1 ∨ k = 2 ∨ k = 3
  · have HW := Lib.hid (show wrong1 k n' = false by unfold wrong1; rw [if_pos h1])
    rw [HW.out]
    rcases h1 with rfl | rfl | rfl
    all_goals
      go_enter Try.func81, Try.ntmps81
      go_wp2
      go_ret
      exact ⟨rfl, hb.out⟩
  · by_cases h2 : k = 4 ∨ k = 5 ∨ k = 6
    · have HW := Lib.hid (show wrong1 k n' = (n' == 0) by unfold wrong1; rw [if_neg h1, if_pos h2])
      rw [HW.out]
      clear h1
      rcases h2 with rfl | rfl | rfl
      all_goals
        go_enter Try.func81, Try.ntmps81
        go_wp2
        go_ret
        exact ⟨ret_bool hz.out, hb.out⟩
    · have HW := Lib.hid (show wrong1 k n' = true by unfold wrong1; rw [if_neg h1, if_neg h2])
      rw [HW.out]
      have q1 : ((k : Int) == 1) = false := by simp; omega
      have q2 : ((k : Int) == 2) = false := by simp; omega
      have q3 : ((k : Int) == 3) = false := by simp; omega
      have q4 : ((k : Int) == 4) = false := by simp; omega
      have q5 : ((k : Int) == 5) = false := by simp; omega
      have q6 : ((k : Int) == 6) = false := by simp; omega
      clear h1 h2
      go_enter Try.func81, Try.ntmps81
      go_wp2
      go_ret
      exact ⟨rfl, hb.out⟩
/-- What counting leaves. -/
def CountIH (d : Nat) : Prop := ∀ (t : Tr) (v0 v1 v2 : Value) (w : World) (cp : Nat) (N deep : Nat) (lg wr : Bool), TreeAt w (fun b => b < w.heap.size ∧ b ≠ cp) d t [v0, v1, v2] → Blk w cp 119 #[.int .i64 (N : Nat), .bool lg, .bool wr] → N + nodesT d t ≤ 1000 → deep + highT d t ≤ 301 →
  Calls Try.prog 53 #[.pointer (some ⟨cp, 0, none⟩), .agg #[v0, v1, v2], .int .i64 (deep : Nat)] w fun e w' => e = .returned (.tuple #[]) ∧ Blk w' cp 119 #[.int .i64 ((N + nodesT d t : Nat) : Int), .bool false, .bool (wr || wrongT d t)] ∧ Kept (fun j => j = cp) w w'
theorem count_cells {w : World} {cp : Nat} {a b c : Value} (h : Blk w cp 119 #[a, b, c]) : w.cell? ⟨cp, 0, none⟩ = some a ∧ w.cell? ⟨cp, 1, none⟩ = some b ∧ w.cell? ⟨cp, 2, none⟩ = some c ∧ w.frozen? ⟨cp, 0, none⟩ = false ∧ w.frozen? ⟨cp, 1, none⟩ = false ∧ w.frozen? ⟨cp, 2, none⟩ = false := blk3 h
set_option maxHeartbeats 1000000 in
set_option maxRecDepth 100000 in
theorem count_any : ∀ d, CountIH d
  | 0 => fun t v0 v1 v2 w cp N deep lg wr h _ _ _ => h.elim
  | d + 1 => fun t v0 v1 v2 w cp N deep lg wr h hb hN hD => by
    have ih := count_any d
    obtain ⟨k, rs, kids⟩ := t
    obtain ⟨A, n, c, A', n', c', e, hn, hn', hr, hlk, hk⟩ := h
    simp only [List.cons.injEq, and_true] at e
    obtain ⟨rfl, rfl, rfl⟩ := e
    have hnN : nodesT (d + 1) (.mk k rs kids) = 1 + (kids.map (nodesT d)).sum := rfl
    have hhN : highT (d + 1) (.mk k rs kids) = 1 + (kids.map (highT d)).foldr max 0 := rfl
    have hwN : wrongT (d + 1) (.mk k rs kids) = (wrong1 k n' || kids.any (wrongT d)) := by rw [← hlk]; rfl
    rw [hnN] at hN
    rw [hhN] at hD
    rw [hnN, hwN]
    clear hnN hhN hwN hr
    have hcp := hb.lt
    obtain ⟨p0, p1, p2, f0, f1, f2⟩ := count_cells hb
    have hne : w.heap.size ≠ cp := by omega
    have q1 : ¬ (1000 : Int) < (N : Int) + 1 := by omega
    have q2 : ¬ (300 : Int) < (deep : Int) := by omega
    unfold maxLen at hn'
    have hnn := hn'.1
    have hwrp : IntKind.i64.wrap ((N : Int) + 1) = (N : Int) + 1 := by rw [IntKind.wrap_i64]; omega
    have hb2 : Blk ((w.setCell ⟨cp, 0, none⟩ (.int .i64 ((N : Int) + 1))).setCell ⟨cp, 1, none⟩ (.bool false)) cp 119 #[.int .i64 ((N : Int) + 1), .bool false, .bool wr] := (hb.set_ 0 _).set_ 1 _
    have hsz2 : ((w.setCell ⟨cp, 0, none⟩ (.int .i64 ((N : Int) + 1))).setCell ⟨cp, 1, none⟩ (.bool false)).heap.size = w.heap.size := by simp [World.setCell]
    have hk2 : Kept (fun j => j = cp) w ((w.setCell ⟨cp, 0, none⟩ (.int .i64 ((N : Int) + 1))).setCell ⟨cp, 1, none⟩ (.bool false)) := ((Kept.refl (fun j => j = cp) w).set_ (p := ⟨cp, 0, none⟩) (.inl rfl) _).set_ (p := ⟨cp, 1, none⟩) (.inl rfl) _
    have hbx := hb2.alloc (.cells #[.int .i64 k, .slice A n c, .slice A' n' c'] 25)
    have kx := Blk.new ((w.setCell ⟨cp, 0, none⟩ (.int .i64 ((N : Int) + 1))).setCell ⟨cp, 1, none⟩ (.bool false)) 25 #[.int .i64 k, .slice A n c, .slice A' n' c']
    rw [hsz2] at kx
    have hkx := hk2.alloc (.cells #[.int .i64 k, .slice A n c, .slice A' n' c'] 25)
    have HBX := Lib.hid hbx
    have HKX := Lib.hid kx
    have HPX := Lib.hid hkx
    have HB0 := Lib.hid hb2
    have HP0 := Lib.hid hk2
    clear hb2 hsz2 hk2 hb hbx kx hkx hn' hn
    cases wr with
    | true =>
      have HB2 := Lib.hid ((HB0.out.set_ 2 (.bool true)).alloc (.cells #[.int .i64 k, .slice A n c, .slice A' n' c'] 25))
      have hk3 := Blk.new (((w.setCell ⟨cp, 0, none⟩ (.int .i64 ((N : Int) + 1))).setCell ⟨cp, 1, none⟩ (.bool false)).setCell ⟨cp, 2, none⟩ (.bool true)) 25 #[.int .i64 k, .slice A n c, .slice A' n' c']
      rw [show (((w.setCell ⟨cp, 0, none⟩ (.int .i64 ((N : Int) + 1))).setCell ⟨cp, 1, none⟩ (.bool false)).setCell ⟨cp, 2, none⟩ (.bool true)).heap.size = w.heap.size by simp [World.setCell]] at hk3
      have HK2 := Lib.hid hk3
      have HP2 := Lib.hid ((HP0.out.set_ (p := ⟨cp, 2, none⟩) (.inl rfl) (.bool true)).alloc (.cells #[.int .i64 k, .slice A n c, .slice A' n' c'] 25))
      clear hk3
      clear HBX HKX HPX
      go_enter Try.func53, Try.ntmps53
      go_wp2_with fail
      go_loopw [6] (fun vi wx => ∃ m : Nat, m ≤ n' ∧ vi = .int .i64 (m : Nat) ∧ Blk wx cp 119 #[.int .i64 ((N + 1 + ((kids.take m).map (nodesT d)).sum : Nat) : Int), .bool false, .bool (true || (kids.take m).any (wrongT d))] ∧ Blk wx w.heap.size 25 #[.int .i64 k, .slice A n c, .slice A' n' c'] ∧ Kept (fun j => j = cp) w wx) (fun vi _ => n' - (intOf vi).toNat)
      case atStart => exact ⟨0, Nat.zero_le _, rfl, by rw [List.take_zero]; simpa using HB2.out, HK2.out, HP2.out⟩
      case round =>
        clear HB2 HK2 HP2
        obtain ⟨m, hm, rfl, hb, hkb, hkp⟩ := hrel
        have HMB := Lib.hid hb
        have HMK := Lib.hid hkb
        have HMP := Lib.hid hkp
        obtain ⟨N1, hN1⟩ : ∃ N1, N1 = N + 1 + ((kids.take m).map (nodesT d)).sum := ⟨_, rfl⟩
        obtain ⟨Z1, hZ1⟩ : ∃ Z1, Z1 = (true || (kids.take m).any (wrongT d)) := ⟨_, rfl⟩
        rw [← hN1, ← hZ1] at hb
        have hlb := hb.lt
        obtain ⟨p0, p1, p2, f0, f1, f2⟩ := count_cells hb
        have hw2 : wr.cell? ⟨w.heap.size, 2, none⟩ = some (.slice A' n' c') := hkb.cell 2
        have hsw := hkp.size
        by_cases hlt : m < n'
        · have hlt' : (m : Int) < (n' : Int) := by omega
          have hm0 : (0 : Int) ≤ (m : Int) := by omega
          obtain ⟨b, o, rfl, hbo, hcells⟩ := hk (by omega)
          obtain ⟨t, htk⟩ : ∃ t, kids[m]? = some t := ⟨kids[m]'(by omega), List.getElem?_eq_getElem _⟩
          obtain ⟨v0, v1, v2, e0, e1, e2, htr⟩ := hcells m t htk
          have hbk := hkp.block b hbo.1 hbo.2
          replace e0 := (World.cell?_of_block (a := ⟨b, o + m * 3, none⟩) hbk).trans e0
          replace e1 := (World.cell?_of_block (a := ⟨b, o + m * 3 + 1, none⟩) hbk).trans e1
          replace e2 := (World.cell?_of_block (a := ⟨b, o + m * 3 + 2, none⟩) hbk).trans e2
          have hsum := sum_take (d := d) htk
          have hhi := foldr_max_le (List.mem_map.2 ⟨t, List.mem_of_getElem? htk, rfl⟩ : highT d t ∈ kids.map (highT d))
          have HR := Lib.hid (ih t v0 v1 v2 wr cp N1 (deep + 1) false Z1 ((htr.keep fun i hi => hkp.block i hi.1 hi.2).mono fun i hi => ⟨Nat.lt_of_lt_of_le hi.1 hsw, hi.2⟩) hb (by omega) (by omega))
          have HTS := Lib.hid (takeS htk)
          have HN1 := Lib.hid hN1
          have HZ1 := Lib.hid hZ1
          clear hcells htr htk hbk hN1 hZ1 hb hkb hkp
          go_wp2_with fail
          refine HR.out.mono ?_
          rintro e w3 ⟨rfl, hb3, hk3⟩
          have HB3 := Lib.hid (show Blk w3 cp 119 #[.int .i64 ((N + 1 + ((kids.take (m + 1)).map (nodesT d)).sum : Nat) : Int), .bool false, .bool (true || (kids.take (m + 1)).any (wrongT d))] by
            rw [HTS.out, List.map_append, List.sum_append, List.any_append]
            have e3 : N + 1 + (((kids.take m).map (nodesT d)).sum + ([t].map (nodesT d)).sum) = N1 + nodesT d t := by rw [HN1.out]; simp; omega
            have e4 : (true || ((kids.take m).any (wrongT d) || [t].any (wrongT d))) = (Z1 || wrongT d t) := by rw [HZ1.out]; simp
            rw [e3, e4]; exact hb3)
          have HKB3 := Lib.hid (show Blk w3 w.heap.size 25 #[.int .i64 k, .slice A n c, .slice (some ⟨b, o, none⟩) n' c'] from (hk3.block _ HMK.out.lt hne).trans HMK.out)
          have HKP3 := Lib.hid (HMP.out.trans hk3 (fun j hj => .inl hj))
          clear hb3 hk3 HR
          go_wp2
          go_roundw
          case rel => exact ⟨m + 1, by omega, by go_num, HB3.out, HKB3.out, HKP3.out⟩
          case measure => simp [intOf]; omega
        · obtain rfl : n' = m := by omega
          have hlt' : ¬ (n' : Int) < (n' : Int) := by omega
          have HFIN := Lib.hid (show Blk wr cp 119 #[.int .i64 ((N + (1 + (kids.map (nodesT d)).sum) : Nat) : Int), .bool false, .bool (true || (wrong1 k n' || kids.any (wrongT d)))] by
            have h := HMB.out
            rw [List.take_of_length_le (by omega)] at h
            rw [show N + (1 + (kids.map (nodesT d)).sum) = N + 1 + (kids.map (nodesT d)).sum by omega, show (true || (wrong1 k n' || kids.any (wrongT d))) = (true || kids.any (wrongT d)) by simp]
            exact h)
          clear hN1 hZ1
          go_wp2
          go_end0
          exact ⟨rfl, HFIN.out, HMP.out⟩
    | false =>
      have HW := Lib.hid (fun W => nwrong_any k A A' n c n' c' W)
      go_enter Try.func53, Try.ntmps53
      go_wp2_with fail
      refine (HW.out _).mono ?_
      rintro e w1 ⟨rfl, b1⟩
      have hbq := HBX.out.below b1 HBX.out.lt
      obtain ⟨p0, p1, p2, f0, f1, f2⟩ := count_cells hbq
      have HB2 := Lib.hid (hbq.set_ 2 (.bool (wrong1 k n')))
      have HK2 := Lib.hid ((HKX.out.below b1 HKX.out.lt).far (p := ⟨cp, 2, none⟩) hne (.bool (wrong1 k n')))
      have HP2 := Lib.hid ((HPX.out.trans (kept_below b1) (fun j hj => .inl hj)).set_ (p := ⟨cp, 2, none⟩) (.inl rfl) (.bool (wrong1 k n')))
      clear HBX HKX HPX hbq b1
      go_wp2_with fail
      go_loopw [6] (fun vi wx => ∃ m : Nat, m ≤ n' ∧ vi = .int .i64 (m : Nat) ∧ Blk wx cp 119 #[.int .i64 ((N + 1 + ((kids.take m).map (nodesT d)).sum : Nat) : Int), .bool false, .bool (wrong1 k n' || (kids.take m).any (wrongT d))] ∧ Blk wx w.heap.size 25 #[.int .i64 k, .slice A n c, .slice A' n' c'] ∧ Kept (fun j => j = cp) w wx) (fun vi _ => n' - (intOf vi).toNat)
      case atStart => exact ⟨0, Nat.zero_le _, rfl, by rw [List.take_zero]; simpa using HB2.out, HK2.out, HP2.out⟩
      case round =>
        clear HB2 HK2 HP2
        obtain ⟨m, hm, rfl, hb, hkb, hkp⟩ := hrel
        have HMB := Lib.hid hb
        have HMK := Lib.hid hkb
        have HMP := Lib.hid hkp
        obtain ⟨N1, hN1⟩ : ∃ N1, N1 = N + 1 + ((kids.take m).map (nodesT d)).sum := ⟨_, rfl⟩
        obtain ⟨Z1, hZ1⟩ : ∃ Z1, Z1 = (wrong1 k n' || (kids.take m).any (wrongT d)) := ⟨_, rfl⟩
        rw [← hN1, ← hZ1] at hb
        have hlb := hb.lt
        obtain ⟨p0, p1, p2, f0, f1, f2⟩ := count_cells hb
        have hw2 : wr.cell? ⟨w.heap.size, 2, none⟩ = some (.slice A' n' c') := hkb.cell 2
        have hsw := hkp.size
        by_cases hlt : m < n'
        · have hlt' : (m : Int) < (n' : Int) := by omega
          have hm0 : (0 : Int) ≤ (m : Int) := by omega
          obtain ⟨b, o, rfl, hbo, hcells⟩ := hk (by omega)
          obtain ⟨t, htk⟩ : ∃ t, kids[m]? = some t := ⟨kids[m]'(by omega), List.getElem?_eq_getElem _⟩
          obtain ⟨v0, v1, v2, e0, e1, e2, htr⟩ := hcells m t htk
          have hbk := hkp.block b hbo.1 hbo.2
          replace e0 := (World.cell?_of_block (a := ⟨b, o + m * 3, none⟩) hbk).trans e0
          replace e1 := (World.cell?_of_block (a := ⟨b, o + m * 3 + 1, none⟩) hbk).trans e1
          replace e2 := (World.cell?_of_block (a := ⟨b, o + m * 3 + 2, none⟩) hbk).trans e2
          have hsum := sum_take (d := d) htk
          have hhi := foldr_max_le (List.mem_map.2 ⟨t, List.mem_of_getElem? htk, rfl⟩ : highT d t ∈ kids.map (highT d))
          have HR := Lib.hid (ih t v0 v1 v2 wr cp N1 (deep + 1) false Z1 ((htr.keep fun i hi => hkp.block i hi.1 hi.2).mono fun i hi => ⟨Nat.lt_of_lt_of_le hi.1 hsw, hi.2⟩) hb (by omega) (by omega))
          have HTS := Lib.hid (takeS htk)
          have HN1 := Lib.hid hN1
          have HZ1 := Lib.hid hZ1
          clear hcells htr htk hbk hN1 hZ1 hb hkb hkp
          go_wp2_with fail
          refine HR.out.mono ?_
          rintro e w3 ⟨rfl, hb3, hk3⟩
          have HB3 := Lib.hid (show Blk w3 cp 119 #[.int .i64 ((N + 1 + ((kids.take (m + 1)).map (nodesT d)).sum : Nat) : Int), .bool false, .bool (wrong1 k n' || (kids.take (m + 1)).any (wrongT d))] by
            rw [HTS.out, List.map_append, List.sum_append, List.any_append]
            have e3 : N + 1 + (((kids.take m).map (nodesT d)).sum + ([t].map (nodesT d)).sum) = N1 + nodesT d t := by rw [HN1.out]; simp; omega
            have e4 : (wrong1 k n' || ((kids.take m).any (wrongT d) || [t].any (wrongT d))) = (Z1 || wrongT d t) := by rw [HZ1.out]; simp [Bool.or_assoc]
            rw [e3, e4]; exact hb3)
          have HKB3 := Lib.hid (show Blk w3 w.heap.size 25 #[.int .i64 k, .slice A n c, .slice (some ⟨b, o, none⟩) n' c'] from (hk3.block _ HMK.out.lt hne).trans HMK.out)
          have HKP3 := Lib.hid (HMP.out.trans hk3 (fun j hj => .inl hj))
          clear hb3 hk3 HR
          go_wp2
          go_roundw
          case rel => exact ⟨m + 1, by omega, by go_num, HB3.out, HKB3.out, HKP3.out⟩
          case measure => simp [intOf]; omega
        · obtain rfl : n' = m := by omega
          have hlt' : ¬ (n' : Int) < (n' : Int) := by omega
          have HFIN := Lib.hid (show Blk wr cp 119 #[.int .i64 ((N + (1 + (kids.map (nodesT d)).sum) : Nat) : Int), .bool false, .bool (false || (wrong1 k n' || kids.any (wrongT d)))] by
            have h := HMB.out
            rw [List.take_of_length_le (by omega)] at h
            rw [show N + (1 + (kids.map (nodesT d)).sum) = N + 1 + (kids.map (nodesT d)).sum by omega, show (false || (wrong1 k n' || kids.any (wrongT d))) = (wrong1 k n' || kids.any (wrongT d)) by simp]
            exact h)
          clear hN1 hZ1
          go_wp2
          go_end0
          exact ⟨rfl, HFIN.out, HMP.out⟩
end Go.Proofs.Ytgcbcdbfeaepkaa
