/- The reference's Deep and Count of a tree; the law's few. -/
import Derived.Test.YtgcbcdbfeaepkaaOv
namespace Go.Proofs.Ytgcbcdbfeaepkaa
open Go.RowKit Go.Maps

theorem foldr_max_up {l : List Nat} {m : Nat} (h : ∀ x, x ∈ l → x ≤ m) : l.foldr max 0 ≤ m := by
  induction l with
  | nil => exact Nat.zero_le _
  | cons a l ih =>
    rw [List.foldr_cons]
    exact Nat.max_le.2 ⟨h a (List.mem_cons_self ..), ih fun x hx => h x (List.mem_cons_of_mem _ hx)⟩
theorem take_all {ts : List Tr} {m : Nat} {P : Tr → Prop} {t : Tr} (h : ∀ u, u ∈ ts.take m → P u) (ht : ts[m]? = some t) (hp : P t) : ∀ u, u ∈ ts.take (m + 1) → P u := by
  rw [takeS ht]
  intro u hu
  rcases List.mem_append.1 hu with hu | hu
  · exact h u hu
  · rw [List.mem_singleton.1 hu]; exact hp
def DeepPost (w : World) (d : Nat) (t : Tr) (most : Nat) (e : Ending) (w' : World) : Prop := ∃ b : Bool, e = .returned (.bool b) ∧ (b = false → highT d t ≤ most) ∧ Below w.heap.size w w'
def DeepIH (d : Nat) : Prop := ∀ (t : Tr) (v0 v1 v2 : Value) (w : World) (most : Nat), TreeAt w (· < w.heap.size) d t [v0, v1, v2] → most ≤ 1000 → Calls Try.prog 50 #[.agg #[v0, v1, v2], .int .i64 (most : Nat)] w (DeepPost w d t most)
set_option maxHeartbeats 1000000 in
set_option maxRecDepth 100000 in
theorem deep_any : ∀ d, DeepIH d
  | 0 => fun t v0 v1 v2 w most h _ => h.elim
  | d + 1 => fun t v0 v1 v2 w most h hmo => by
    have ih := deep_any d
    obtain ⟨k, rs, kids⟩ := t
    obtain ⟨A, n, c, A', n', c', e, hn, hn', hr, hlk, hk⟩ := h
    simp only [List.cons.injEq, and_true] at e
    obtain ⟨rfl, rfl, rfl⟩ := e
    have hhN : highT (d + 1) (.mk k rs kids) = 1 + (kids.map (highT d)).foldr max 0 := rfl
    have HH := Lib.hid hhN
    have hb0 : Below w.heap.size w (w.alloc (.cells #[.int .i64 k, .slice A n c, .slice A' n' c'] 25)) := (Below.refl _ w).alloc (Nat.le_refl _) _
    have kx := Blk.new w 25 #[.int .i64 k, .slice A n c, .slice A' n' c']
    have hk0 := hn'.1
    unfold maxLen at hk0
    have HB0 := Lib.hid hb0
    have HK0 := Lib.hid kx
    clear hhN hb0 kx hn' hn hr
    by_cases hz : most = 0
    · subst hz
      go_enter Try.func50, Try.ntmps50
      go_wp2_with fail
      go_ret
      exact ⟨true, rfl, (fun h => nomatch h), HB0.out⟩
    · have hz' : ((most : Int) == 0) = false := by simp; omega
      go_enter Try.func50, Try.ntmps50
      go_wp2_with fail
      go_loopw [5] (fun vi wr => ∃ m : Nat, m ≤ n' ∧ vi = .int .i64 (m : Nat) ∧ (∀ u, u ∈ kids.take m → highT d u ≤ most - 1) ∧ Blk wr w.heap.size 25 #[.int .i64 k, .slice A n c, .slice A' n' c'] ∧ Below w.heap.size w wr) (fun vi _ => n' - (intOf vi).toNat)
      case atStart => exact ⟨0, Nat.zero_le _, rfl, (by rw [List.take_zero]; intro u hu; cases hu), HK0.out, HB0.out⟩
      case round =>
        clear HK0 HB0
        obtain ⟨m, hm, rfl, hall, hkb, hbw⟩ := hrel
        have HALL := Lib.hid hall
        have HKB := Lib.hid hkb
        have HBW := Lib.hid hbw
        have hw2 : wr.cell? ⟨w.heap.size, 2, none⟩ = some (.slice A' n' c') := hkb.cell 2
        have hsw := hbw.size
        by_cases hlt : m < n'
        · have hlt' : (m : Int) < (n' : Int) := by omega
          have hm0 : (0 : Int) ≤ (m : Int) := by omega
          obtain ⟨b, o, rfl, hbo, hcells⟩ := hk (by omega)
          obtain ⟨t, htk⟩ : ∃ t, kids[m]? = some t := ⟨kids[m]'(by omega), List.getElem?_eq_getElem _⟩
          obtain ⟨v0, v1, v2, e0, e1, e2, htr⟩ := hcells m t htk
          have hbk := hbw.block b hbo
          replace e0 := (World.cell?_of_block (a := ⟨b, o + m * 3, none⟩) hbk).trans e0
          replace e1 := (World.cell?_of_block (a := ⟨b, o + m * 3 + 1, none⟩) hbk).trans e1
          replace e2 := (World.cell?_of_block (a := ⟨b, o + m * 3 + 2, none⟩) hbk).trans e2
          have hwr1 : IntKind.i64.wrap ((most : Int) - 1) = (most : Int) - 1 := by rw [IntKind.wrap_i64]; omega
          have hcast : ((most - 1 : Nat) : Int) = (most : Int) - 1 := by omega
          have HR := Lib.hid (show Calls Try.prog 50 #[.agg #[v0, v1, v2], .int .i64 ((most : Int) - 1)] wr (DeepPost wr d t (most - 1)) from hcast ▸ ih t v0 v1 v2 wr (most - 1) (tree_below htr hbw) (by omega))
          have HTK := Lib.hid htk
          clear hcells htr htk hbk hall hkb hbw hcast
          go_wp2_with fail
          refine HR.out.mono ?_
          rintro e w3 ⟨bb, rfl, hbb, hb3⟩
          have HB3 := Lib.hid (HBW.out.trans (hb3.mono hsw))
          have HK3 := Lib.hid ((hb3.block _ HKB.out.lt).trans HKB.out)
          have HBB := Lib.hid hbb
          clear hb3 hbb HR
          cases bb with
          | true =>
            go_wp2_with fail
            go_ret
            exact ⟨true, rfl, (fun h => nomatch h), HB3.out⟩
          | false =>
            go_wp2_with fail
            go_roundw
            case rel => exact ⟨m + 1, by omega, by go_num, take_all HALL.out HTK.out (by have h := HBB.out; simpa using h), HK3.out, HB3.out⟩
            case measure => simp [intOf]; omega
        · obtain rfl : n' = m := by omega
          have hlt' : ¬ (n' : Int) < (n' : Int) := by omega
          have HFIN := Lib.hid (show highT (d + 1) (.mk k rs kids) ≤ most by
            rw [HH.out]
            have : (kids.map (highT d)).foldr max 0 ≤ most - 1 := foldr_max_up fun x hx => by
              obtain ⟨u, hu, rfl⟩ := List.mem_map.1 hx
              exact HALL.out u (by rw [← hlk, List.take_length]; exact hu)
            omega)
          clear hall hkb hbw
          go_wp2_with fail
          go_ret
          exact ⟨false, rfl, fun _ => HFIN.out, HBW.out⟩
def RCPost (w : World) (d : Nat) (t : Tr) (most : Nat) (e : Ending) (w' : World) : Prop := ∃ r : Nat, e = .returned (.int .i64 (r : Nat)) ∧ r ≤ most ∧ (r < most → r = nodesT d t) ∧ Below w.heap.size w w'
def RCIH (d : Nat) : Prop := ∀ (t : Tr) (v0 v1 v2 : Value) (w : World) (most : Nat), TreeAt w (· < w.heap.size) d t [v0, v1, v2] → 1 ≤ most → most ≤ 2000 → Calls Try.prog 51 #[.agg #[v0, v1, v2], .int .i64 (most : Nat)] w (RCPost w d t most)
set_option maxHeartbeats 1000000 in
set_option maxRecDepth 100000 in
theorem rcount_any : ∀ d, RCIH d
  | 0 => fun t v0 v1 v2 w most h _ _ => h.elim
  | d + 1 => fun t v0 v1 v2 w most h hmo1 hmo => by
    have ih := rcount_any d
    obtain ⟨k, rs, kids⟩ := t
    obtain ⟨A, n, c, A', n', c', e, hn, hn', hr, hlk, hk⟩ := h
    simp only [List.cons.injEq, and_true] at e
    obtain ⟨rfl, rfl, rfl⟩ := e
    have HH := Lib.hid (show nodesT (d + 1) (.mk k rs kids) = 1 + (kids.map (nodesT d)).sum from rfl)
    have hb0 : Below w.heap.size w (w.alloc (.cells #[.int .i64 k, .slice A n c, .slice A' n' c'] 25)) := (Below.refl _ w).alloc (Nat.le_refl _) _
    have kx := Blk.new w 25 #[.int .i64 k, .slice A n c, .slice A' n' c']
    have hk0 := hn'.1
    unfold maxLen at hk0
    have HB0 := Lib.hid hb0
    have HK0 := Lib.hid kx
    clear hb0 kx hn' hn hr
    go_enter Try.func51, Try.ntmps51
    go_wp2_with fail
    go_loopw [5, 6] (fun vn vi wr => ∃ m N : Nat, m ≤ n' ∧ vi = .int .i64 (m : Nat) ∧ vn = .int .i64 (N : Nat) ∧ 1 ≤ N ∧ N ≤ most ∧ (N < most → N = 1 + ((kids.take m).map (nodesT d)).sum) ∧ Blk wr w.heap.size 25 #[.int .i64 k, .slice A n c, .slice A' n' c'] ∧ Below w.heap.size w wr) (fun _ vi _ => n' - (intOf vi).toNat)
    case atStart => exact ⟨0, 1, Nat.zero_le _, rfl, rfl, Nat.le_refl _, hmo1, fun _ => by rw [List.take_zero]; rfl, HK0.out, HB0.out⟩
    case round =>
      clear HK0 HB0
      obtain ⟨m, N, hm, rfl, rfl, hN1, hNm, hNe, hkb, hbw⟩ := hrel
      have HNE := Lib.hid hNe
      have HKB := Lib.hid hkb
      have HBW := Lib.hid hbw
      have hw2 : wr.cell? ⟨w.heap.size, 2, none⟩ = some (.slice A' n' c') := hkb.cell 2
      have hsw := hbw.size
      clear hNe
      by_cases hlt : m < n'
      · have hlt' : (m : Int) < (n' : Int) := by omega
        have hm0 : (0 : Int) ≤ (m : Int) := by omega
        by_cases hNl : N < most
        · have hNl' : (N : Int) < (most : Int) := by omega
          obtain ⟨b, o, rfl, hbo, hcells⟩ := hk (by omega)
          obtain ⟨t, htk⟩ : ∃ t, kids[m]? = some t := ⟨kids[m]'(by omega), List.getElem?_eq_getElem _⟩
          obtain ⟨v0, v1, v2, e0, e1, e2, htr⟩ := hcells m t htk
          have hbk := hbw.block b hbo
          replace e0 := (World.cell?_of_block (a := ⟨b, o + m * 3, none⟩) hbk).trans e0
          replace e1 := (World.cell?_of_block (a := ⟨b, o + m * 3 + 1, none⟩) hbk).trans e1
          replace e2 := (World.cell?_of_block (a := ⟨b, o + m * 3 + 2, none⟩) hbk).trans e2
          have hwr1 : IntKind.i64.wrap ((most : Int) - (N : Int)) = (most : Int) - (N : Int) := by rw [IntKind.wrap_i64]; omega
          have hcast : ((most - N : Nat) : Int) = (most : Int) - (N : Int) := by omega
          have HR := Lib.hid (show Calls Try.prog 51 #[.agg #[v0, v1, v2], .int .i64 ((most : Int) - (N : Int))] wr (RCPost wr d t (most - N)) from hcast ▸ ih t v0 v1 v2 wr (most - N) (tree_below htr hbw) (by omega) (by omega))
          have HTK := Lib.hid htk
          clear hcells htr htk hbk hkb hbw hcast
          go_wp2_with fail
          refine HR.out.mono ?_
          rintro e w3 ⟨r, rfl, hr1, hr2, hb3⟩
          have HB3 := Lib.hid (HBW.out.trans (hb3.mono hsw))
          have HK3 := Lib.hid ((hb3.block _ HKB.out.lt).trans HKB.out)
          have hwr2 : IntKind.i64.wrap ((N : Int) + (r : Int)) = (N : Int) + (r : Int) := by rw [IntKind.wrap_i64]; omega
          have HR2 := Lib.hid hr2
          clear hb3 hr2 HR
          go_wp2_with fail
          go_roundw
          case rel => exact ⟨m + 1, N + r, by omega, by go_num, by go_num, by omega, by omega, fun hl => by
            have h1 := HNE.out hNl
            have h2 := HR2.out (by omega)
            rw [takeS HTK.out, List.map_append, List.sum_append, h2]
            simp only [List.map_cons, List.map_nil, List.sum_cons, List.sum_nil]; omega, HK3.out, HB3.out⟩
          case measure => simp [intOf]; omega
        · have hNl' : ¬ (N : Int) < (most : Int) := by omega
          have HFIN := Lib.hid (show RCPost w (d + 1) (.mk k rs kids) most (.returned (.int .i64 (N : Nat))) wr from ⟨N, rfl, hNm, fun h => absurd h hNl, HBW.out⟩)
          clear hkb hbw
          go_wp2_with fail
          go_ret
          exact HFIN.out
      · obtain rfl : n' = m := by omega
        have hlt' : ¬ (n' : Int) < (n' : Int) := by omega
        have HFIN := Lib.hid (show RCPost w (d + 1) (.mk k rs kids) most (.returned (.int .i64 (N : Nat))) wr from ⟨N, rfl, hNm, fun h => by
          rw [HH.out]; have := HNE.out h; rwa [← hlk, List.take_length] at this, HBW.out⟩)
        clear hkb hbw
        go_wp2_with fail
        go_ret
        exact HFIN.out
end Go.Proofs.Ytgcbcdbfeaepkaa
