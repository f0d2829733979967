/- The reference's Deep, Count, wrong and Check of a right tree: what they can't answer. -/
import Derived.Test.YtjnhmcgjeljcmaaOzj
namespace Go.Proofs.Ytjnhmcgjeljcmaa
open Go.RowKit Go.Maps

theorem mem_foldr_max {x : Nat} : ∀ {l : List Nat}, x ∈ l → x ≤ l.foldr max 0
  | [], h => nomatch h
  | a :: l, h => by
    rw [List.foldr_cons]
    rcases List.mem_cons.1 h with rfl | h
    · exact Nat.le_max_left _ _
    · exact Nat.le_trans (mem_foldr_max h) (Nat.le_max_right _ _)
theorem sum_take_le : ∀ (l : List Nat) (m : Nat), (l.take m).sum ≤ l.sum
  | [], m => by simp
  | a :: l, 0 => by simp
  | a :: l, m + 1 => by simp only [List.take_succ_cons, List.sum_cons]; have := sum_take_le l m; omega
def DeepP2 (w : World) (d : Nat) (t : Tr) (most : Nat) (e : Ending) (w' : World) : Prop := ∃ b : Bool, e = .returned (.bool b) ∧ (b = true → most < highT d t) ∧ Below w.heap.size w w'
def DeepI2 (d : Nat) : Prop := ∀ (t : Tr) (v0 v1 v2 : Value) (w : World) (most : Nat), TreeAt w (· < w.heap.size) d t [v0, v1, v2] → most ≤ 1000 → Calls Try.prog 70 #[.agg #[v0, v1, v2], .int .i64 (most : Nat)] w (DeepP2 w d t most)
set_option maxHeartbeats 1000000 in
set_option maxRecDepth 100000 in
theorem deep2_any : ∀ d, DeepI2 d
  | 0 => fun t v0 v1 v2 w most h _ => h.elim
  | d + 1 => fun t v0 v1 v2 w most h hmo => by
    have ih := deep2_any d
    obtain ⟨k, rs, kids⟩ := t
    obtain ⟨A, n, c, A', n', c', e, hn, hn', hr, hlk, hk⟩ := h
    simp only [List.cons.injEq, and_true] at e
    obtain ⟨rfl, rfl, rfl⟩ := e
    have hhN : highT (d + 1) (.mk k rs kids) = 1 + (kids.map (highT d)).foldr max 0 := rfl
    have HH := Lib.hid hhN
    have hb0 : Below w.heap.size w (w.alloc (.cells #[.int .i64 k, .slice A n c, .slice A' n' c'] 26)) := (Below.refl _ w).alloc (Nat.le_refl _) _
    have kx := Blk.new w 26 #[.int .i64 k, .slice A n c, .slice A' n' c']
    have hk0 := hn'.1
    unfold maxLen at hk0
    have HB0 := Lib.hid hb0
    have HK0 := Lib.hid kx
    clear hhN hb0 kx hn' hn hr
    by_cases hz : most = 0
    · subst hz
      go_enter Try.func70, Try.ntmps70
      go_wp2_with fail
      go_ret
      exact ⟨true, rfl, (fun _ => by rw [HH.out]; omega), HB0.out⟩
    · have hz' : ((most : Int) == 0) = false := by simp; omega
      go_enter Try.func70, Try.ntmps70
      go_wp2_with fail
      go_loopw [5] (fun vi wr => ∃ m : Nat, m ≤ n' ∧ vi = .int .i64 (m : Nat) ∧ Blk wr w.heap.size 26 #[.int .i64 k, .slice A n c, .slice A' n' c'] ∧ Below w.heap.size w wr) (fun vi _ => n' - (intOf vi).toNat)
      case atStart => exact ⟨0, Nat.zero_le _, rfl, HK0.out, HB0.out⟩
      case round =>
        clear HK0 HB0
        obtain ⟨m, hm, rfl, hkb, hbw⟩ := hrel
        have HKB := Lib.hid hkb
        have HBW := Lib.hid hbw
        have hw2 : wr.cell? ⟨w.heap.size, 2, none⟩ = some (.slice A' n' c') := hkb.cell 2
        have hsw := hbw.size
        by_cases hlt : m < n'
        · have hlt' : (m : Int) < (n' : Int) := by omega
          have hm0 : (0 : Int) ≤ (m : Int) := by omega
          obtain ⟨b, o, rfl, hbo, hcells⟩ := hk (by omega)
          obtain ⟨t, htk⟩ : ∃ t, kids[m]? = some t := ⟨kids[m]'(by omega), List.getElem?_eq_getElem _⟩
          obtain ⟨v0, v1, v2, e0, e1, e2, htr⟩ := hcells m t htk
          have hbk := hbw.block b hbo
          replace e0 := (World.cell?_of_block (a := ⟨b, o + m * 3, none⟩) hbk).trans e0
          replace e1 := (World.cell?_of_block (a := ⟨b, o + m * 3 + 1, none⟩) hbk).trans e1
          replace e2 := (World.cell?_of_block (a := ⟨b, o + m * 3 + 2, none⟩) hbk).trans e2
          have hwr1 : IntKind.i64.wrap ((most : Int) - 1) = (most : Int) - 1 := by rw [IntKind.wrap_i64]; omega
          have hcast : ((most - 1 : Nat) : Int) = (most : Int) - 1 := by omega
          have HR := Lib.hid (show Calls Try.prog 70 #[.agg #[v0, v1, v2], .int .i64 ((most : Int) - 1)] wr (DeepP2 wr d t (most - 1)) from hcast ▸ ih t v0 v1 v2 wr (most - 1) (tree_below htr hbw) (by omega))
          have HTK := Lib.hid htk
          clear hcells htr htk hbk hkb hbw hcast
          go_wp2_with fail
          refine HR.out.mono ?_
          rintro e w3 ⟨bb, rfl, hbb, hb3⟩
          have HB3 := Lib.hid (HBW.out.trans (hb3.mono hsw))
          have HK3 := Lib.hid ((hb3.block _ HKB.out.lt).trans HKB.out)
          have HBB := Lib.hid hbb
          clear hb3 hbb HR
          cases bb with
          | true =>
            go_wp2_with fail
            go_ret
            exact ⟨true, rfl, (fun _ => by
              rw [HH.out]
              have h1 := HBB.out trivial
              have h2 := mem_foldr_max (List.mem_map_of_mem (f := highT d) (List.mem_of_getElem? HTK.out))
              omega), HB3.out⟩
          | false =>
            go_wp2_with fail
            go_roundw
            case rel => exact ⟨m + 1, by omega, by go_num, HK3.out, HB3.out⟩
            case measure => simp [intOf]; omega
        · obtain rfl : n' = m := by omega
          have hlt' : ¬ (n' : Int) < (n' : Int) := by omega
          clear hkb hbw
          go_wp2_with fail
          go_ret
          exact ⟨false, rfl, (fun h => nomatch h), HBW.out⟩
def RCP2 (w : World) (d : Nat) (t : Tr) (most : Nat) (e : Ending) (w' : World) : Prop := ∃ r : Nat, e = .returned (.int .i64 (r : Nat)) ∧ r ≤ most ∧ r ≤ nodesT d t ∧ Below w.heap.size w w'
def RCI2 (d : Nat) : Prop := ∀ (t : Tr) (v0 v1 v2 : Value) (w : World) (most : Nat), TreeAt w (· < w.heap.size) d t [v0, v1, v2] → 1 ≤ most → most ≤ 2000 → Calls Try.prog 71 #[.agg #[v0, v1, v2], .int .i64 (most : Nat)] w (RCP2 w d t most)
set_option maxHeartbeats 1000000 in
set_option maxRecDepth 100000 in
theorem rcount2_any : ∀ d, RCI2 d
  | 0 => fun t v0 v1 v2 w most h _ _ => h.elim
  | d + 1 => fun t v0 v1 v2 w most h hmo1 hmo => by
    have ih := rcount2_any d
    obtain ⟨k, rs, kids⟩ := t
    obtain ⟨A, n, c, A', n', c', e, hn, hn', hr, hlk, hk⟩ := h
    simp only [List.cons.injEq, and_true] at e
    obtain ⟨rfl, rfl, rfl⟩ := e
    have HH := Lib.hid (show nodesT (d + 1) (.mk k rs kids) = 1 + (kids.map (nodesT d)).sum from rfl)
    have hb0 : Below w.heap.size w (w.alloc (.cells #[.int .i64 k, .slice A n c, .slice A' n' c'] 26)) := (Below.refl _ w).alloc (Nat.le_refl _) _
    have kx := Blk.new w 26 #[.int .i64 k, .slice A n c, .slice A' n' c']
    have hk0 := hn'.1
    unfold maxLen at hk0
    have HB0 := Lib.hid hb0
    have HK0 := Lib.hid kx
    clear hb0 kx hn' hn hr
    go_enter Try.func71, Try.ntmps71
    go_wp2_with fail
    go_loopw [5, 6] (fun vn vi wr => ∃ m N : Nat, m ≤ n' ∧ vi = .int .i64 (m : Nat) ∧ vn = .int .i64 (N : Nat) ∧ 1 ≤ N ∧ N ≤ most ∧ N ≤ 1 + ((kids.take m).map (nodesT d)).sum ∧ Blk wr w.heap.size 26 #[.int .i64 k, .slice A n c, .slice A' n' c'] ∧ Below w.heap.size w wr) (fun _ vi _ => n' - (intOf vi).toNat)
    case atStart => exact ⟨0, 1, Nat.zero_le _, rfl, rfl, Nat.le_refl _, hmo1, by rw [List.take_zero]; exact Nat.le_refl _, HK0.out, HB0.out⟩
    case round =>
      clear HK0 HB0
      obtain ⟨m, N, hm, rfl, rfl, hN1, hNm, hNe, hkb, hbw⟩ := hrel
      have HNE := Lib.hid hNe
      have HKB := Lib.hid hkb
      have HBW := Lib.hid hbw
      have hw2 : wr.cell? ⟨w.heap.size, 2, none⟩ = some (.slice A' n' c') := hkb.cell 2
      have hsw := hbw.size
      clear hNe
      by_cases hlt : m < n'
      · have hlt' : (m : Int) < (n' : Int) := by omega
        have hm0 : (0 : Int) ≤ (m : Int) := by omega
        by_cases hNl : N < most
        · have hNl' : (N : Int) < (most : Int) := by omega
          obtain ⟨b, o, rfl, hbo, hcells⟩ := hk (by omega)
          obtain ⟨t, htk⟩ : ∃ t, kids[m]? = some t := ⟨kids[m]'(by omega), List.getElem?_eq_getElem _⟩
          obtain ⟨v0, v1, v2, e0, e1, e2, htr⟩ := hcells m t htk
          have hbk := hbw.block b hbo
          replace e0 := (World.cell?_of_block (a := ⟨b, o + m * 3, none⟩) hbk).trans e0
          replace e1 := (World.cell?_of_block (a := ⟨b, o + m * 3 + 1, none⟩) hbk).trans e1
          replace e2 := (World.cell?_of_block (a := ⟨b, o + m * 3 + 2, none⟩) hbk).trans e2
          have hwr1 : IntKind.i64.wrap ((most : Int) - (N : Int)) = (most : Int) - (N : Int) := by rw [IntKind.wrap_i64]; omega
          have hcast : ((most - N : Nat) : Int) = (most : Int) - (N : Int) := by omega
          have HR := Lib.hid (show Calls Try.prog 71 #[.agg #[v0, v1, v2], .int .i64 ((most : Int) - (N : Int))] wr (RCP2 wr d t (most - N)) from hcast ▸ ih t v0 v1 v2 wr (most - N) (tree_below htr hbw) (by omega) (by omega))
          have HTK := Lib.hid htk
          clear hcells htr htk hbk hkb hbw hcast
          go_wp2_with fail
          refine HR.out.mono ?_
          rintro e w3 ⟨r, rfl, hr1, hr2, hb3⟩
          have HB3 := Lib.hid (HBW.out.trans (hb3.mono hsw))
          have HK3 := Lib.hid ((hb3.block _ HKB.out.lt).trans HKB.out)
          have hwr2 : IntKind.i64.wrap ((N : Int) + (r : Int)) = (N : Int) + (r : Int) := by rw [IntKind.wrap_i64]; omega
          have HR2 := Lib.hid hr2
          clear hb3 hr2 HR
          go_wp2_with fail
          go_roundw
          case rel => exact ⟨m + 1, N + r, by omega, by go_num, by go_num, by omega, by omega, by
            have h1 := HNE.out
            have h2 := HR2.out
            rw [takeS HTK.out, List.map_append, List.sum_append]
            simp only [List.map_cons, List.map_nil, List.sum_cons, List.sum_nil]; omega, HK3.out, HB3.out⟩
          case measure => simp [intOf]; omega
        · have hNl' : ¬ (N : Int) < (most : Int) := by omega
          have HFIN := Lib.hid (show RCP2 w (d + 1) (.mk k rs kids) most (.returned (.int .i64 (N : Nat))) wr from ⟨N, rfl, hNm, by rw [HH.out]; have h1 := HNE.out; have h2 := sum_take_le (kids.map (nodesT d)) m; rw [← List.map_take] at h2; omega, HBW.out⟩)
          clear hkb hbw
          go_wp2_with fail
          go_ret
          exact HFIN.out
      · obtain rfl : n' = m := by omega
        have hlt' : ¬ (n' : Int) < (n' : Int) := by omega
        have HFIN := Lib.hid (show RCP2 w (d + 1) (.mk k rs kids) most (.returned (.int .i64 (N : Nat))) wr from ⟨N, rfl, hNm, by
          rw [HH.out]; have := HNE.out; rwa [← hlk, List.take_length] at this, HBW.out⟩)
        clear hkb hbw
        go_wp2_with fail
        go_ret
        exact HFIN.out
theorem wrong_one {k : Int} {n' : Nat} {kids : List Tr} (hl : kids.length = n') (h : k < 1 ∨ 6 < k ∨ (3 < k ∧ n' = 0)) : wrong1 k kids.length = true := by
  unfold wrong1
  rw [if_neg (by omega)]
  by_cases a : k = 4 ∨ k = 5 ∨ k = 6
  · rw [if_pos a, hl]; simp; omega
  · rw [if_neg a]
def WrP2 (w : World) (d : Nat) (t : Tr) (e : Ending) (w' : World) : Prop := ∃ b : Bool, e = .returned (.bool b) ∧ (b = true → wrongT d t = true) ∧ Below w.heap.size w w'
def WrI2 (d : Nat) : Prop := ∀ (t : Tr) (v0 v1 v2 : Value) (w : World), TreeAt w (· < w.heap.size) d t [v0, v1, v2] → Calls Try.prog 72 #[.agg #[v0, v1, v2]] w (WrP2 w d t)
set_option maxHeartbeats 1000000 in
set_option maxRecDepth 100000 in
theorem rwrong2_any : ∀ d, WrI2 d
  | 0 => fun t v0 v1 v2 w h => h.elim
  | d + 1 => fun t v0 v1 v2 w h => by
    have ih := rwrong2_any d
    obtain ⟨k, rs, kids⟩ := t
    obtain ⟨A, n, c, A', n', c', e, hn, hn', hr, hlk, hk⟩ := h
    simp only [List.cons.injEq, and_true] at e
    obtain ⟨rfl, rfl, rfl⟩ := e
    have HH := Lib.hid (show wrongT (d + 1) (.mk k rs kids) = (wrong1 k kids.length || kids.any (wrongT d)) from rfl)
    have hb0 : Below w.heap.size w (w.alloc (.cells #[.int .i64 k, .slice A n c, .slice A' n' c'] 26)) := (Below.refl _ w).alloc (Nat.le_refl _) _
    have kx := Blk.new w 26 #[.int .i64 k, .slice A n c, .slice A' n' c']
    have hk0 := hn'.1
    unfold maxLen at hk0
    have HB0 := Lib.hid hb0
    have HK0 := Lib.hid kx
    have HLK := Lib.hid hlk
    clear hb0 kx hn' hn hr
    by_cases q1 : k < 1
    · go_enter Try.func72, Try.ntmps72
      go_wp2_with fail
      go_ret
      exact ⟨true, rfl, (fun _ => by rw [HH.out, wrong_one HLK.out (by omega)]; rfl), HB0.out⟩
    by_cases q2 : 6 < k
    · go_enter Try.func72, Try.ntmps72
      go_wp2_with fail
      go_ret
      exact ⟨true, rfl, (fun _ => by rw [HH.out, wrong_one HLK.out (by omega)]; rfl), HB0.out⟩
    have body : (3 < k → 0 < n') → Calls Try.prog 72 #[.agg #[.int .i64 k, .slice A n c, .slice A' n' c']] w (WrP2 w (d + 1) (.mk k rs kids)) := fun q => by
      have q3 : ¬ (3 < k ∧ n' = 0) := fun ⟨a, b⟩ => by have := q a; omega
      clear q
      by_cases q4 : 3 < k
      · have q5 : ((n' : Int) == 0) = false := by simp; omega
        go_enter Try.func72, Try.ntmps72
        go_wp2_with fail
        go_loopw [3] (fun vi wr => ∃ m : Nat, m ≤ n' ∧ vi = .int .i64 (m : Nat) ∧ Blk wr w.heap.size 26 #[.int .i64 k, .slice A n c, .slice A' n' c'] ∧ Below w.heap.size w wr) (fun vi _ => n' - (intOf vi).toNat)
        case atStart => exact ⟨0, Nat.zero_le _, rfl, HK0.out, HB0.out⟩
        case round =>
          clear HK0 HB0
          obtain ⟨m, hm, rfl, hkb, hbw⟩ := hrel
          have HKB := Lib.hid hkb
          have HBW := Lib.hid hbw
          have hw2 : wr.cell? ⟨w.heap.size, 2, none⟩ = some (.slice A' n' c') := hkb.cell 2
          have hsw := hbw.size
          by_cases hlt : m < n'
          · have hlt' : (m : Int) < (n' : Int) := by omega
            have hm0 : (0 : Int) ≤ (m : Int) := by omega
            obtain ⟨b, o, rfl, hbo, hcells⟩ := hk (by omega)
            obtain ⟨t, htk⟩ : ∃ t, kids[m]? = some t := ⟨kids[m]'(by omega), List.getElem?_eq_getElem _⟩
            obtain ⟨v0, v1, v2, e0, e1, e2, htr⟩ := hcells m t htk
            have hbk := hbw.block b hbo
            replace e0 := (World.cell?_of_block (a := ⟨b, o + m * 3, none⟩) hbk).trans e0
            replace e1 := (World.cell?_of_block (a := ⟨b, o + m * 3 + 1, none⟩) hbk).trans e1
            replace e2 := (World.cell?_of_block (a := ⟨b, o + m * 3 + 2, none⟩) hbk).trans e2
            have HR := Lib.hid (ih t v0 v1 v2 wr (tree_below htr hbw))
            have HTK := Lib.hid htk
            clear hcells htr htk hbk hkb hbw
            go_wp2_with fail
            refine HR.out.mono ?_
            rintro e w3 ⟨bb, rfl, hbb, hb3⟩
            have HB3 := Lib.hid (HBW.out.trans (hb3.mono hsw))
            have HK3 := Lib.hid ((hb3.block _ HKB.out.lt).trans HKB.out)
            have HBB := Lib.hid hbb
            clear hb3 hbb HR
            cases bb with
            | true =>
              go_wp2_with fail
              go_ret
              exact ⟨true, rfl, (fun _ => by rw [HH.out]; have h1 := HBB.out trivial; rw [List.any_eq_true.2 ⟨_, List.mem_of_getElem? HTK.out, h1⟩, Bool.or_true]), HB3.out⟩
            | false =>
              go_wp2_with fail
              go_roundw
              case rel => exact ⟨m + 1, by omega, by go_num, HK3.out, HB3.out⟩
              case measure => simp [intOf]; omega
          · obtain rfl : n' = m := by omega
            have hlt' : ¬ (n' : Int) < (n' : Int) := by omega
            clear hkb hbw
            go_wp2_with fail
            go_ret
            exact ⟨false, rfl, (fun h => nomatch h), HBW.out⟩
      · go_enter Try.func72, Try.ntmps72
        go_wp2_with fail
        go_loopw [3] (fun vi wr => ∃ m : Nat, m ≤ n' ∧ vi = .int .i64 (m : Nat) ∧ Blk wr w.heap.size 26 #[.int .i64 k, .slice A n c, .slice A' n' c'] ∧ Below w.heap.size w wr) (fun vi _ => n' - (intOf vi).toNat)
        case atStart => exact ⟨0, Nat.zero_le _, rfl, HK0.out, HB0.out⟩
        case round =>
          clear HK0 HB0
          obtain ⟨m, hm, rfl, hkb, hbw⟩ := hrel
          have HKB := Lib.hid hkb
          have HBW := Lib.hid hbw
          have hw2 : wr.cell? ⟨w.heap.size, 2, none⟩ = some (.slice A' n' c') := hkb.cell 2
          have hsw := hbw.size
          by_cases hlt : m < n'
          · have hlt' : (m : Int) < (n' : Int) := by omega
            have hm0 : (0 : Int) ≤ (m : Int) := by omega
            obtain ⟨b, o, rfl, hbo, hcells⟩ := hk (by omega)
            obtain ⟨t, htk⟩ : ∃ t, kids[m]? = some t := ⟨kids[m]'(by omega), List.getElem?_eq_getElem _⟩
            obtain ⟨v0, v1, v2, e0, e1, e2, htr⟩ := hcells m t htk
            have hbk := hbw.block b hbo
            replace e0 := (World.cell?_of_block (a := ⟨b, o + m * 3, none⟩) hbk).trans e0
            replace e1 := (World.cell?_of_block (a := ⟨b, o + m * 3 + 1, none⟩) hbk).trans e1
            replace e2 := (World.cell?_of_block (a := ⟨b, o + m * 3 + 2, none⟩) hbk).trans e2
            have HR := Lib.hid (ih t v0 v1 v2 wr (tree_below htr hbw))
            have HTK := Lib.hid htk
            clear hcells htr htk hbk hkb hbw
            go_wp2_with fail
            refine HR.out.mono ?_
            rintro e w3 ⟨bb, rfl, hbb, hb3⟩
            have HB3 := Lib.hid (HBW.out.trans (hb3.mono hsw))
            have HK3 := Lib.hid ((hb3.block _ HKB.out.lt).trans HKB.out)
            have HBB := Lib.hid hbb
            clear hb3 hbb HR
            cases bb with
            | true =>
              go_wp2_with fail
              go_ret
              exact ⟨true, rfl, (fun _ => by rw [HH.out]; have h1 := HBB.out trivial; rw [List.any_eq_true.2 ⟨_, List.mem_of_getElem? HTK.out, h1⟩, Bool.or_true]), HB3.out⟩
            | false =>
              go_wp2_with fail
              go_roundw
              case rel => exact ⟨m + 1, by omega, by go_num, HK3.out, HB3.out⟩
              case measure => simp [intOf]; omega
          · obtain rfl : n' = m := by omega
            have hlt' : ¬ (n' : Int) < (n' : Int) := by omega
            clear hkb hbw
            go_wp2_with fail
            go_ret
            exact ⟨false, rfl, (fun h => nomatch h), HBW.out⟩
    by_cases q4 : 3 < k ∧ n' = 0
    · obtain ⟨q4, rfl⟩ := q4
      clear body
      go_enter Try.func72, Try.ntmps72
      go_wp2_with fail
      go_ret
      exact ⟨true, rfl, (fun _ => by rw [HH.out, wrong_one HLK.out (by omega)]; rfl), HB0.out⟩
    · exact body fun h => by omega
def CkP2 (w : World) (_ : Nat) (_ : Tr) (e : Ending) (w' : World) : Prop := e = .returned (.int .i64 0) ∧ Below w.heap.size w w'
set_option maxHeartbeats 1000000 in
set_option maxRecDepth 100000 in
theorem rcheck2_any {d : Nat} {t : Tr} {v0 v1 v2 : Value} {w : World} (h : TreeAt w (· < w.heap.size) d t [v0, v1, v2]) (hg : wrongT d t = false) (hn : nodesT d t ≤ 1000) (hh : highT d t ≤ 300) : Calls Try.prog 43 #[.agg #[v0, v1, v2]] w (CkP2 w d t) := by
  obtain ⟨k, A, n, c, A', n', c', rfl, rfl, rfl⟩ := tree_shape h
  have hb0 : Below w.heap.size w (w.alloc (.cells #[.int .i64 k, .slice A n c, .slice A' n' c'] 26)) := (Below.refl _ w).alloc (Nat.le_refl _) _
  have kx := Blk.new w 26 #[.int .i64 k, .slice A n c, .slice A' n' c']
  have HD := Lib.hid (show Calls Try.prog 70 #[.agg #[.int .i64 k, .slice A n c, .slice A' n' c'], .int .i64 300] (w.alloc (.cells #[.int .i64 k, .slice A n c, .slice A' n' c'] 26)) (DeepP2 _ d t 300) from deep2_any d t _ _ _ _ 300 (tree_below h hb0) (by decide))
  have HB0 := Lib.hid hb0
  have HK0 := Lib.hid kx
  have HT := Lib.hid h
  clear hb0 kx h
  go_enter Try.func43, Try.ntmps43
  go_wp2_with fail
  refine HD.out.mono ?_
  rintro e w2 ⟨bd, rfl, hbd, b2⟩
  have HB2 := Lib.hid (HB0.out.trans (b2.mono HB0.out.size))
  have HK2 := Lib.hid (node_cells HK0.out b2)
  have HBD := Lib.hid hbd
  clear b2 HD HB0 HK0 hbd
  cases bd with
  | true =>
    exact absurd (HBD.out rfl) (by omega)
  | false =>
    obtain ⟨k0, k1, k2, -, -, -⟩ := blk3 HK2.out
    have HC := Lib.hid (show Calls Try.prog 71 #[.agg #[.int .i64 k, .slice A n c, .slice A' n' c'], .int .i64 1001] w2 (RCP2 w2 d t 1001) from rcount2_any d t _ _ _ w2 1001 (tree_below HT.out HB2.out) (by decide) (by decide))
    go_wp2_with fail
    refine HC.out.mono ?_
    rintro e w3 ⟨r, rfl, hr1, hr2, b3⟩
    have HB3 := Lib.hid (HB2.out.trans (b3.mono HB2.out.size))
    have HK3 := Lib.hid (node_cells HK2.out b3)
    have HR2 := Lib.hid hr2
    clear k0 k1 k2 b3 HC HB2 HK2 hr2
    by_cases hr : 1000 < r
    · exact absurd (HR2.out) (by omega)
    · have hr' : ¬ (1000 : Int) < (r : Int) := by omega
      obtain ⟨k0, k1, k2, -, -, -⟩ := blk3 HK3.out
      have HW := Lib.hid (rwrong2_any d t _ _ _ w3 (tree_below HT.out HB3.out))
      go_wp2_with fail
      refine HW.out.mono ?_
      rintro e w4 ⟨bw, rfl, hbw, b4⟩
      have HB4 := Lib.hid (HB3.out.trans (b4.mono HB3.out.size))
      have HBW := Lib.hid hbw
      clear k0 k1 k2 b4 HW hbw
      cases bw with
      | true =>
        exact absurd (HBW.out rfl) (by rw [hg]; simp)
      | false =>
        go_wp2_with fail
        go_ret
        exact ⟨rfl, HB4.out⟩
end Go.Proofs.Ytjnhmcgjeljcmaa
