/- The reference's Table of any right tree. The reference's Deep and Count of a tree; the law's few. The reference's wrong, Check, Last. The reference's Check, Last, Find. -/
import Derived.Test.YtjnhmcgjeljcmaaKyc
import Derived.Test.YtjnhmcgjeljcmaaFd
namespace Go.Proofs.Ytjnhmcgjeljcmaa
open Go.RowKit Go.Maps

theorem TreeAt.kidsT {w : World} {d n' : Nat} {A' : Option Addr} {kids : List Tr} (h4 : kids.length = n')
    (h5 : 0 < n' → ∃ b o, A' = some ⟨b, o, none⟩ ∧ b < w.heap.size ∧ ∀ i t, kids[i]? = some t → ∃ v0 v1 v2, w.cell? ⟨b, o + i * 3, none⟩ = some v0 ∧ w.cell? ⟨b, o + i * 3 + 1, none⟩ = some v1 ∧ w.cell? ⟨b, o + i * 3 + 2, none⟩ = some v2 ∧ TreeAt w (· < w.heap.size) d t [v0, v1, v2]) : KidsT w d n' A' kids := ⟨h4, h5⟩
theorem table_any : ∀ d, TabIH d
  | 0 => fun t v0 v1 v2 s w h _ _ => h.elim
  | d + 1 => fun t v0 v1 v2 s w h hg hs => by
    have ih := table_any d
    obtain ⟨k, rs, kids⟩ := t
    obtain ⟨A, n, c, A', n', c', e, hn, hn', hr, hl, hk⟩ := h
    obtain ⟨g1, g2, g3, g4⟩ := hg
    simp only [List.cons.injEq, and_true] at e
    obtain ⟨rfl, rfl, rfl⟩ := e
    have hkt : KidsT w d n' A' kids := ⟨hl, hk⟩
    rcases (by omega : k = 1 ∨ k = 2 ∨ k = 3 ∨ k = 4 ∨ k = 5 ∨ k = 6) with rfl | rfl | rfl | rfl | rfl | rfl
    · exact table1_any rs kids A A' n c n' c' s w hr hn hs d
    · exact table2_any ih rs kids A A' n c n' c' s w hkt hn'.1 g4 hs
    · exact table3_any ih rs kids A A' n c n' c' s w hkt hn'.1 g4 hs
    · match kids, g3 (by decide), g4, hkt with
      | t :: r, _, g4, hkt => exact table4_any ih rs t r A A' n c n' c' s w hkt hn'.1 (g4 t (List.mem_cons_self ..)) hs
    · match kids, g3 (by decide), g4, hkt with
      | t :: r, _, g4, hkt => exact table5_any ih rs t r A A' n c n' c' s w hkt hn'.1 (g4 t (List.mem_cons_self ..)) hs
    · match kids, g3 (by decide), g4, hkt with
      | t :: r, _, g4, hkt => exact table6_any ih rs t r A A' n c n' c' s w hkt hn'.1 (g4 t (List.mem_cons_self ..)) hs
end Go.Proofs.Ytjnhmcgjeljcmaa
namespace Go.Proofs.Ytjnhmcgjeljcmaa
open Go.RowKit Go.Maps

theorem node_cells {w w' : World} {g : Nat} {a b c : Value} (h : Blk w g 26 #[a, b, c]) (hb : Below w.heap.size w w') : Blk w' g 26 #[a, b, c] := (hb.block g h.lt).trans h

theorem foldr_max_up {l : List Nat} {m : Nat} (h : ∀ x, x ∈ l → x ≤ m) : l.foldr max 0 ≤ m := by
  induction l with
  | nil => exact Nat.zero_le _
  | cons a l ih =>
    rw [List.foldr_cons]
    exact Nat.max_le.2 ⟨h a (List.mem_cons_self ..), ih fun x hx => h x (List.mem_cons_of_mem _ hx)⟩
theorem take_all {ts : List Tr} {m : Nat} {P : Tr → Prop} {t : Tr} (h : ∀ u, u ∈ ts.take m → P u) (ht : ts[m]? = some t) (hp : P t) : ∀ u, u ∈ ts.take (m + 1) → P u := by
  rw [takeS ht]
  intro u hu
  rcases List.mem_append.1 hu with hu | hu
  · exact h u hu
  · rw [List.mem_singleton.1 hu]; exact hp
def DeepPost (w : World) (d : Nat) (t : Tr) (most : Nat) (e : Ending) (w' : World) : Prop := ∃ b : Bool, e = .returned (.bool b) ∧ (b = false → highT d t ≤ most) ∧ Below w.heap.size w w'
def DeepIH (d : Nat) : Prop := ∀ (t : Tr) (v0 v1 v2 : Value) (w : World) (most : Nat), TreeAt w (· < w.heap.size) d t [v0, v1, v2] → most ≤ 1000 → Calls Try.prog 70 #[.agg #[v0, v1, v2], .int .i64 (most : Nat)] w (DeepPost w d t most)
set_option maxHeartbeats 1000000 in
set_option maxRecDepth 100000 in
theorem deep_any : ∀ d, DeepIH d
  | 0 => fun t v0 v1 v2 w most h _ => h.elim
  | d + 1 => fun t v0 v1 v2 w most h hmo => by
    have ih := deep_any d
    obtain ⟨k, rs, kids⟩ := t
    obtain ⟨A, n, c, A', n', c', e, hn, hn', hr, hlk, hk⟩ := h
    simp only [List.cons.injEq, and_true] at e
    obtain ⟨rfl, rfl, rfl⟩ := e
    have hhN : highT (d + 1) (.mk k rs kids) = 1 + (kids.map (highT d)).foldr max 0 := rfl
    have HH := Lib.hid hhN
    have hb0 : Below w.heap.size w (w.alloc (.cells #[.int .i64 k, .slice A n c, .slice A' n' c'] 26)) := (Below.refl _ w).alloc (Nat.le_refl _) _
    have kx := Blk.new w 26 #[.int .i64 k, .slice A n c, .slice A' n' c']
    have hk0 := hn'.1
    unfold maxLen at hk0
    have HB0 := Lib.hid hb0
    have HK0 := Lib.hid kx
    clear hhN hb0 kx hn' hn hr
    by_cases hz : most = 0
    · subst hz
      go_enter Try.func70, Try.ntmps70
      go_wp2_with fail
      go_ret
      exact ⟨true, rfl, (fun h => nomatch h), HB0.out⟩
    · have hz' : ((most : Int) == 0) = false := by simp; omega
      go_enter Try.func70, Try.ntmps70
      go_wp2_with fail
      go_loopw [5] (fun vi wr => ∃ m : Nat, m ≤ n' ∧ vi = .int .i64 (m : Nat) ∧ (∀ u, u ∈ kids.take m → highT d u ≤ most - 1) ∧ Blk wr w.heap.size 26 #[.int .i64 k, .slice A n c, .slice A' n' c'] ∧ Below w.heap.size w wr) (fun vi _ => n' - (intOf vi).toNat)
      case atStart => exact ⟨0, Nat.zero_le _, rfl, (by rw [List.take_zero]; intro u hu; cases hu), HK0.out, HB0.out⟩
      case round =>
        clear HK0 HB0
        obtain ⟨m, hm, rfl, hall, hkb, hbw⟩ := hrel
        have HALL := Lib.hid hall
        have HKB := Lib.hid hkb
        have HBW := Lib.hid hbw
        have hw2 : wr.cell? ⟨w.heap.size, 2, none⟩ = some (.slice A' n' c') := hkb.cell 2
        have hsw := hbw.size
        by_cases hlt : m < n'
        · have hlt' : (m : Int) < (n' : Int) := by omega
          have hm0 : (0 : Int) ≤ (m : Int) := by omega
          obtain ⟨b, o, rfl, hbo, hcells⟩ := hk (by omega)
          obtain ⟨t, htk⟩ : ∃ t, kids[m]? = some t := ⟨kids[m]'(by omega), List.getElem?_eq_getElem _⟩
          obtain ⟨v0, v1, v2, e0, e1, e2, htr⟩ := hcells m t htk
          have hbk := hbw.block b hbo
          replace e0 := (World.cell?_of_block (a := ⟨b, o + m * 3, none⟩) hbk).trans e0
          replace e1 := (World.cell?_of_block (a := ⟨b, o + m * 3 + 1, none⟩) hbk).trans e1
          replace e2 := (World.cell?_of_block (a := ⟨b, o + m * 3 + 2, none⟩) hbk).trans e2
          have hwr1 : IntKind.i64.wrap ((most : Int) - 1) = (most : Int) - 1 := by rw [IntKind.wrap_i64]; omega
          have hcast : ((most - 1 : Nat) : Int) = (most : Int) - 1 := by omega
          have HR := Lib.hid (show Calls Try.prog 70 #[.agg #[v0, v1, v2], .int .i64 ((most : Int) - 1)] wr (DeepPost wr d t (most - 1)) from hcast ▸ ih t v0 v1 v2 wr (most - 1) (tree_below htr hbw) (by omega))
          have HTK := Lib.hid htk
          clear hcells htr htk hbk hall hkb hbw hcast
          go_wp2_with fail
          refine HR.out.mono ?_
          rintro e w3 ⟨bb, rfl, hbb, hb3⟩
          have HB3 := Lib.hid (HBW.out.trans (hb3.mono hsw))
          have HK3 := Lib.hid ((hb3.block _ HKB.out.lt).trans HKB.out)
          have HBB := Lib.hid hbb
          clear hb3 hbb HR
          cases bb with
          | true =>
            go_wp2_with fail
            go_ret
            exact ⟨true, rfl, (fun h => nomatch h), HB3.out⟩
          | false =>
            go_wp2_with fail
            go_roundw
            case rel => exact ⟨m + 1, by omega, by go_num, take_all HALL.out HTK.out (by have h := HBB.out; simpa using h), HK3.out, HB3.out⟩
            case measure => simp [intOf]; omega
        · obtain rfl : n' = m := by omega
          have hlt' : ¬ (n' : Int) < (n' : Int) := by omega
          have HFIN := Lib.hid (show highT (d + 1) (.mk k rs kids) ≤ most by
            rw [HH.out]
            have : (kids.map (highT d)).foldr max 0 ≤ most - 1 := foldr_max_up fun x hx => by
              obtain ⟨u, hu, rfl⟩ := List.mem_map.1 hx
              exact HALL.out u (by rw [← hlk, List.take_length]; exact hu)
            omega)
          clear hall hkb hbw
          go_wp2_with fail
          go_ret
          exact ⟨false, rfl, fun _ => HFIN.out, HBW.out⟩
def RCPost (w : World) (d : Nat) (t : Tr) (most : Nat) (e : Ending) (w' : World) : Prop := ∃ r : Nat, e = .returned (.int .i64 (r : Nat)) ∧ r ≤ most ∧ (r < most → r = nodesT d t) ∧ Below w.heap.size w w'
def RCIH (d : Nat) : Prop := ∀ (t : Tr) (v0 v1 v2 : Value) (w : World) (most : Nat), TreeAt w (· < w.heap.size) d t [v0, v1, v2] → 1 ≤ most → most ≤ 2000 → Calls Try.prog 71 #[.agg #[v0, v1, v2], .int .i64 (most : Nat)] w (RCPost w d t most)
set_option maxHeartbeats 1000000 in
set_option maxRecDepth 100000 in
theorem rcount_any : ∀ d, RCIH d
  | 0 => fun t v0 v1 v2 w most h _ _ => h.elim
  | d + 1 => fun t v0 v1 v2 w most h hmo1 hmo => by
    have ih := rcount_any d
    obtain ⟨k, rs, kids⟩ := t
    obtain ⟨A, n, c, A', n', c', e, hn, hn', hr, hlk, hk⟩ := h
    simp only [List.cons.injEq, and_true] at e
    obtain ⟨rfl, rfl, rfl⟩ := e
    have HH := Lib.hid (show nodesT (d + 1) (.mk k rs kids) = 1 + (kids.map (nodesT d)).sum from rfl)
    have hb0 : Below w.heap.size w (w.alloc (.cells #[.int .i64 k, .slice A n c, .slice A' n' c'] 26)) := (Below.refl _ w).alloc (Nat.le_refl _) _
    have kx := Blk.new w 26 #[.int .i64 k, .slice A n c, .slice A' n' c']
    have hk0 := hn'.1
    unfold maxLen at hk0
    have HB0 := Lib.hid hb0
    have HK0 := Lib.hid kx
    clear hb0 kx hn' hn hr
    go_enter Try.func71, Try.ntmps71
    go_wp2_with fail
    go_loopw [5, 6] (fun vn vi wr => ∃ m N : Nat, m ≤ n' ∧ vi = .int .i64 (m : Nat) ∧ vn = .int .i64 (N : Nat) ∧ 1 ≤ N ∧ N ≤ most ∧ (N < most → N = 1 + ((kids.take m).map (nodesT d)).sum) ∧ Blk wr w.heap.size 26 #[.int .i64 k, .slice A n c, .slice A' n' c'] ∧ Below w.heap.size w wr) (fun _ vi _ => n' - (intOf vi).toNat)
    case atStart => exact ⟨0, 1, Nat.zero_le _, rfl, rfl, Nat.le_refl _, hmo1, fun _ => by rw [List.take_zero]; rfl, HK0.out, HB0.out⟩
    case round =>
      clear HK0 HB0
      obtain ⟨m, N, hm, rfl, rfl, hN1, hNm, hNe, hkb, hbw⟩ := hrel
      have HNE := Lib.hid hNe
      have HKB := Lib.hid hkb
      have HBW := Lib.hid hbw
      have hw2 : wr.cell? ⟨w.heap.size, 2, none⟩ = some (.slice A' n' c') := hkb.cell 2
      have hsw := hbw.size
      clear hNe
      by_cases hlt : m < n'
      · have hlt' : (m : Int) < (n' : Int) := by omega
        have hm0 : (0 : Int) ≤ (m : Int) := by omega
        by_cases hNl : N < most
        · have hNl' : (N : Int) < (most : Int) := by omega
          obtain ⟨b, o, rfl, hbo, hcells⟩ := hk (by omega)
          obtain ⟨t, htk⟩ : ∃ t, kids[m]? = some t := ⟨kids[m]'(by omega), List.getElem?_eq_getElem _⟩
          obtain ⟨v0, v1, v2, e0, e1, e2, htr⟩ := hcells m t htk
          have hbk := hbw.block b hbo
          replace e0 := (World.cell?_of_block (a := ⟨b, o + m * 3, none⟩) hbk).trans e0
          replace e1 := (World.cell?_of_block (a := ⟨b, o + m * 3 + 1, none⟩) hbk).trans e1
          replace e2 := (World.cell?_of_block (a := ⟨b, o + m * 3 + 2, none⟩) hbk).trans e2
          have hwr1 : IntKind.i64.wrap ((most : Int) - (N : Int)) = (most : Int) - (N : Int) := by rw [IntKind.wrap_i64]; omega
          have hcast : ((most - N : Nat) : Int) = (most : Int) - (N : Int) := by omega
          have HR := Lib.hid (show Calls Try.prog 71 #[.agg #[v0, v1, v2], .int .i64 ((most : Int) - (N : Int))] wr (RCPost wr d t (most - N)) from hcast ▸ ih t v0 v1 v2 wr (most - N) (tree_below htr hbw) (by omega) (by omega))
          have HTK := Lib.hid htk
          clear hcells htr htk hbk hkb hbw hcast
          go_wp2_with fail
          refine HR.out.mono ?_
          rintro e w3 ⟨r, rfl, hr1, hr2, hb3⟩
          have HB3 := Lib.hid (HBW.out.trans (hb3.mono hsw))
          have HK3 := Lib.hid ((hb3.block _ HKB.out.lt).trans HKB.out)
          have hwr2 : IntKind.i64.wrap ((N : Int) + (r : Int)) = (N : Int) + (r : Int) := by rw [IntKind.wrap_i64]; omega
          have HR2 := Lib.hid hr2
          clear hb3 hr2 HR
          go_wp2_with fail
          go_roundw
          case rel => exact ⟨m + 1, N + r, by omega, by go_num, by go_num, by omega, by omega, fun hl => by
            have h1 := HNE.out hNl
            have h2 := HR2.out (by omega)
            rw [takeS HTK.out, List.map_append, List.sum_append, h2]
            simp only [List.map_cons, List.map_nil, List.sum_cons, List.sum_nil]; omega, HK3.out, HB3.out⟩
          case measure => simp [intOf]; omega
        · have hNl' : ¬ (N : Int) < (most : Int) := by omega
          have HFIN := Lib.hid (show RCPost w (d + 1) (.mk k rs kids) most (.returned (.int .i64 (N : Nat))) wr from ⟨N, rfl, hNm, fun h => absurd h hNl, HBW.out⟩)
          clear hkb hbw
          go_wp2_with fail
          go_ret
          exact HFIN.out
      · obtain rfl : n' = m := by omega
        have hlt' : ¬ (n' : Int) < (n' : Int) := by omega
        have HFIN := Lib.hid (show RCPost w (d + 1) (.mk k rs kids) most (.returned (.int .i64 (N : Nat))) wr from ⟨N, rfl, hNm, fun h => by
          rw [HH.out]; have := HNE.out h; rwa [← hlk, List.take_length] at this, HBW.out⟩)
        clear hkb hbw
        go_wp2_with fail
        go_ret
        exact HFIN.out
end Go.Proofs.Ytjnhmcgjeljcmaa
namespace Go.Proofs.Ytjnhmcgjeljcmaa
open Go.RowKit Go.Maps

def WrPost (w : World) (d : Nat) (t : Tr) (e : Ending) (w' : World) : Prop := ∃ b : Bool, e = .returned (.bool b) ∧ (b = false → wrongT d t = false) ∧ Below w.heap.size w w'
def WrIH (d : Nat) : Prop := ∀ (t : Tr) (v0 v1 v2 : Value) (w : World), TreeAt w (· < w.heap.size) d t [v0, v1, v2] → Calls Try.prog 72 #[.agg #[v0, v1, v2]] w (WrPost w d t)
set_option maxHeartbeats 1000000 in
set_option maxRecDepth 100000 in
theorem rwrong_any : ∀ d, WrIH d
  | 0 => fun t v0 v1 v2 w h => h.elim
  | d + 1 => fun t v0 v1 v2 w h => by
    have ih := rwrong_any d
    obtain ⟨k, rs, kids⟩ := t
    obtain ⟨A, n, c, A', n', c', e, hn, hn', hr, hlk, hk⟩ := h
    simp only [List.cons.injEq, and_true] at e
    obtain ⟨rfl, rfl, rfl⟩ := e
    have HH := Lib.hid (show wrongT (d + 1) (.mk k rs kids) = (wrong1 k kids.length || kids.any (wrongT d)) from rfl)
    have hb0 : Below w.heap.size w (w.alloc (.cells #[.int .i64 k, .slice A n c, .slice A' n' c'] 26)) := (Below.refl _ w).alloc (Nat.le_refl _) _
    have kx := Blk.new w 26 #[.int .i64 k, .slice A n c, .slice A' n' c']
    have hk0 := hn'.1
    unfold maxLen at hk0
    have HB0 := Lib.hid hb0
    have HK0 := Lib.hid kx
    have HLK := Lib.hid hlk
    clear hb0 kx hn' hn hr
    by_cases q1 : k < 1
    · go_enter Try.func72, Try.ntmps72
      go_wp2_with fail
      go_ret
      exact ⟨true, rfl, (fun h => nomatch h), HB0.out⟩
    by_cases q2 : 6 < k
    · go_enter Try.func72, Try.ntmps72
      go_wp2_with fail
      go_ret
      exact ⟨true, rfl, (fun h => nomatch h), HB0.out⟩
    have key : ∀ (q : 3 < k → 0 < n') , wrong1 k kids.length = false := fun q => by
      unfold wrong1
      rw [HLK.out]
      by_cases a : k = 1 ∨ k = 2 ∨ k = 3
      · rw [if_pos a]
      · rw [if_neg a, if_pos (by omega)]
        have := q (by omega)
        simp; omega
    have KEY := Lib.hid key
    clear key
    have body : (3 < k → 0 < n') → Calls Try.prog 72 #[.agg #[.int .i64 k, .slice A n c, .slice A' n' c']] w (WrPost w (d + 1) (.mk k rs kids)) := fun q => by
      have KW := Lib.hid (KEY.out q)
      have q3 : ¬ (3 < k ∧ n' = 0) := fun ⟨a, b⟩ => by have := q a; omega
      clear KEY q
      by_cases q4 : 3 < k
      · have q5 : ((n' : Int) == 0) = false := by simp; omega
        go_enter Try.func72, Try.ntmps72
        go_wp2_with fail
        go_loopw [3] (fun vi wr => ∃ m : Nat, m ≤ n' ∧ vi = .int .i64 (m : Nat) ∧ (∀ u, u ∈ kids.take m → wrongT d u = false) ∧ Blk wr w.heap.size 26 #[.int .i64 k, .slice A n c, .slice A' n' c'] ∧ Below w.heap.size w wr) (fun vi _ => n' - (intOf vi).toNat)
        case atStart => exact ⟨0, Nat.zero_le _, rfl, (by rw [List.take_zero]; intro u hu; cases hu), HK0.out, HB0.out⟩
        case round =>
          clear HK0 HB0
          obtain ⟨m, hm, rfl, hall, hkb, hbw⟩ := hrel
          have HALL := Lib.hid hall
          have HKB := Lib.hid hkb
          have HBW := Lib.hid hbw
          have hw2 : wr.cell? ⟨w.heap.size, 2, none⟩ = some (.slice A' n' c') := hkb.cell 2
          have hsw := hbw.size
          by_cases hlt : m < n'
          · have hlt' : (m : Int) < (n' : Int) := by omega
            have hm0 : (0 : Int) ≤ (m : Int) := by omega
            obtain ⟨b, o, rfl, hbo, hcells⟩ := hk (by omega)
            obtain ⟨t, htk⟩ : ∃ t, kids[m]? = some t := ⟨kids[m]'(by omega), List.getElem?_eq_getElem _⟩
            obtain ⟨v0, v1, v2, e0, e1, e2, htr⟩ := hcells m t htk
            have hbk := hbw.block b hbo
            replace e0 := (World.cell?_of_block (a := ⟨b, o + m * 3, none⟩) hbk).trans e0
            replace e1 := (World.cell?_of_block (a := ⟨b, o + m * 3 + 1, none⟩) hbk).trans e1
            replace e2 := (World.cell?_of_block (a := ⟨b, o + m * 3 + 2, none⟩) hbk).trans e2
            have HR := Lib.hid (ih t v0 v1 v2 wr (tree_below htr hbw))
            have HTK := Lib.hid htk
            clear hcells htr htk hbk hall hkb hbw
            go_wp2_with fail
            refine HR.out.mono ?_
            rintro e w3 ⟨bb, rfl, hbb, hb3⟩
            have HB3 := Lib.hid (HBW.out.trans (hb3.mono hsw))
            have HK3 := Lib.hid ((hb3.block _ HKB.out.lt).trans HKB.out)
            have HBB := Lib.hid hbb
            clear hb3 hbb HR
            cases bb with
            | true =>
              go_wp2_with fail
              go_ret
              exact ⟨true, rfl, (fun h => nomatch h), HB3.out⟩
            | false =>
              go_wp2_with fail
              go_roundw
              case rel => exact ⟨m + 1, by omega, by go_num, take_all HALL.out HTK.out (by have h := HBB.out; simpa using h), HK3.out, HB3.out⟩
              case measure => simp [intOf]; omega
          · obtain rfl : n' = m := by omega
            have hlt' : ¬ (n' : Int) < (n' : Int) := by omega
            have HFIN := Lib.hid (show wrongT (d + 1) (.mk k rs kids) = false by
              rw [HH.out, KW.out, Bool.false_or, List.any_eq_false]
              intro u hu
              rw [HALL.out u (by rw [← hlk, List.take_length]; exact hu)]; simp)
            clear hall hkb hbw
            go_wp2_with fail
            go_ret
            exact ⟨false, rfl, fun _ => HFIN.out, HBW.out⟩
      · go_enter Try.func72, Try.ntmps72
        go_wp2_with fail
        go_loopw [3] (fun vi wr => ∃ m : Nat, m ≤ n' ∧ vi = .int .i64 (m : Nat) ∧ (∀ u, u ∈ kids.take m → wrongT d u = false) ∧ Blk wr w.heap.size 26 #[.int .i64 k, .slice A n c, .slice A' n' c'] ∧ Below w.heap.size w wr) (fun vi _ => n' - (intOf vi).toNat)
        case atStart => exact ⟨0, Nat.zero_le _, rfl, (by rw [List.take_zero]; intro u hu; cases hu), HK0.out, HB0.out⟩
        case round =>
          clear HK0 HB0
          obtain ⟨m, hm, rfl, hall, hkb, hbw⟩ := hrel
          have HALL := Lib.hid hall
          have HKB := Lib.hid hkb
          have HBW := Lib.hid hbw
          have hw2 : wr.cell? ⟨w.heap.size, 2, none⟩ = some (.slice A' n' c') := hkb.cell 2
          have hsw := hbw.size
          by_cases hlt : m < n'
          · have hlt' : (m : Int) < (n' : Int) := by omega
            have hm0 : (0 : Int) ≤ (m : Int) := by omega
            obtain ⟨b, o, rfl, hbo, hcells⟩ := hk (by omega)
            obtain ⟨t, htk⟩ : ∃ t, kids[m]? = some t := ⟨kids[m]'(by omega), List.getElem?_eq_getElem _⟩
            obtain ⟨v0, v1, v2, e0, e1, e2, htr⟩ := hcells m t htk
            have hbk := hbw.block b hbo
            replace e0 := (World.cell?_of_block (a := ⟨b, o + m * 3, none⟩) hbk).trans e0
            replace e1 := (World.cell?_of_block (a := ⟨b, o + m * 3 + 1, none⟩) hbk).trans e1
            replace e2 := (World.cell?_of_block (a := ⟨b, o + m * 3 + 2, none⟩) hbk).trans e2
            have HR := Lib.hid (ih t v0 v1 v2 wr (tree_below htr hbw))
            have HTK := Lib.hid htk
            clear hcells htr htk hbk hall hkb hbw
            go_wp2_with fail
            refine HR.out.mono ?_
            rintro e w3 ⟨bb, rfl, hbb, hb3⟩
            have HB3 := Lib.hid (HBW.out.trans (hb3.mono hsw))
            have HK3 := Lib.hid ((hb3.block _ HKB.out.lt).trans HKB.out)
            have HBB := Lib.hid hbb
            clear hb3 hbb HR
            cases bb with
            | true =>
              go_wp2_with fail
              go_ret
              exact ⟨true, rfl, (fun h => nomatch h), HB3.out⟩
            | false =>
              go_wp2_with fail
              go_roundw
              case rel => exact ⟨m + 1, by omega, by go_num, take_all HALL.out HTK.out (by have h := HBB.out; simpa using h), HK3.out, HB3.out⟩
              case measure => simp [intOf]; omega
          · obtain rfl : n' = m := by omega
            have hlt' : ¬ (n' : Int) < (n' : Int) := by omega
            have HFIN := Lib.hid (show wrongT (d + 1) (.mk k rs kids) = false by
              rw [HH.out, KW.out, Bool.false_or, List.any_eq_false]
              intro u hu
              rw [HALL.out u (by rw [← hlk, List.take_length]; exact hu)]; simp)
            clear hall hkb hbw
            go_wp2_with fail
            go_ret
            exact ⟨false, rfl, fun _ => HFIN.out, HBW.out⟩
    by_cases q4 : 3 < k ∧ n' = 0
    · obtain ⟨q4, rfl⟩ := q4
      clear body
      go_enter Try.func72, Try.ntmps72
      go_wp2_with fail
      go_ret
      exact ⟨true, rfl, (fun h => nomatch h), HB0.out⟩
    · exact body fun h => by omega
end Go.Proofs.Ytjnhmcgjeljcmaa
namespace Go.Proofs.Ytjnhmcgjeljcmaa
open Go.RowKit Go.Maps

def CkPost (w : World) (d : Nat) (t : Tr) (e : Ending) (w' : World) : Prop := ∃ r : Int, e = .returned (.int .i64 r) ∧ (r = 0 → GoodT d t) ∧ Below w.heap.size w w'
set_option maxHeartbeats 1000000 in
set_option maxRecDepth 100000 in
theorem rcheck_any {d : Nat} {t : Tr} {v0 v1 v2 : Value} {w : World} (h : TreeAt w (· < w.heap.size) d t [v0, v1, v2]) : Calls Try.prog 43 #[.agg #[v0, v1, v2]] w (CkPost w d t) := by
  obtain ⟨k, A, n, c, A', n', c', rfl, rfl, rfl⟩ := tree_shape h
  have hb0 : Below w.heap.size w (w.alloc (.cells #[.int .i64 k, .slice A n c, .slice A' n' c'] 26)) := (Below.refl _ w).alloc (Nat.le_refl _) _
  have kx := Blk.new w 26 #[.int .i64 k, .slice A n c, .slice A' n' c']
  have HD := Lib.hid (show Calls Try.prog 70 #[.agg #[.int .i64 k, .slice A n c, .slice A' n' c'], .int .i64 300] (w.alloc (.cells #[.int .i64 k, .slice A n c, .slice A' n' c'] 26)) (DeepPost _ d t 300) from deep_any d t _ _ _ _ 300 (tree_below h hb0) (by decide))
  have HB0 := Lib.hid hb0
  have HK0 := Lib.hid kx
  have HT := Lib.hid h
  clear hb0 kx h
  go_enter Try.func43, Try.ntmps43
  go_wp2_with fail
  refine HD.out.mono ?_
  rintro e w2 ⟨bd, rfl, hbd, b2⟩
  have HB2 := Lib.hid (HB0.out.trans (b2.mono HB0.out.size))
  have HK2 := Lib.hid (node_cells HK0.out b2)
  clear b2 HD HB0 HK0 hbd
  cases bd with
  | true =>
    go_wp2_with fail
    go_ret
    exact ⟨34, rfl, (fun h => by omega), HB2.out⟩
  | false =>
    obtain ⟨k0, k1, k2, -, -, -⟩ := blk3 HK2.out
    have HC := Lib.hid (show Calls Try.prog 71 #[.agg #[.int .i64 k, .slice A n c, .slice A' n' c'], .int .i64 1001] w2 (RCPost w2 d t 1001) from rcount_any d t _ _ _ w2 1001 (tree_below HT.out HB2.out) (by decide) (by decide))
    go_wp2_with fail
    refine HC.out.mono ?_
    rintro e w3 ⟨r, rfl, hr1, hr2, b3⟩
    have HB3 := Lib.hid (HB2.out.trans (b3.mono HB2.out.size))
    have HK3 := Lib.hid (node_cells HK2.out b3)
    clear k0 k1 k2 b3 HC HB2 HK2 hr2
    by_cases hr : 1000 < r
    · have hr' : (1000 : Int) < (r : Int) := by omega
      go_wp2_with fail
      go_ret
      exact ⟨34, rfl, (fun h => by omega), HB3.out⟩
    · have hr' : ¬ (1000 : Int) < (r : Int) := by omega
      obtain ⟨k0, k1, k2, -, -, -⟩ := blk3 HK3.out
      have HW := Lib.hid (rwrong_any d t _ _ _ w3 (tree_below HT.out HB3.out))
      go_wp2_with fail
      refine HW.out.mono ?_
      rintro e w4 ⟨bw, rfl, hbw, b4⟩
      have HB4 := Lib.hid (HB3.out.trans (b4.mono HB3.out.size))
      have HBW := Lib.hid hbw
      clear k0 k1 k2 b4 HW hbw
      cases bw with
      | true =>
        go_wp2_with fail
        go_ret
        exact ⟨1, rfl, (fun h => by omega), HB4.out⟩
      | false =>
        go_wp2_with fail
        go_ret
        exact ⟨0, rfl, (fun _ => good_of d t (by have h := HBW.out; simpa using h)), HB4.out⟩
/-- The last place of a row. -/
def LaR (T : Nat → Nat → Bool) (n i : Nat) (r : Int) : Prop := (r = -1 ∧ ∀ k, k < n → T i k = false) ∨ ∃ u : Nat, r = (u : Nat) ∧ u < n ∧ T i u = true ∧ ∀ k, u < k → k < n → T i k = false
def LaPost (w : World) (T : Nat → Nat → Bool) (n i : Nat) (e : Ending) (w' : World) : Prop := ∃ r : Int, e = .returned (.int .i64 r) ∧ LaR T n i r ∧ Below w.heap.size w w'
set_option maxHeartbeats 1000000 in
set_option maxRecDepth 100000 in
theorem last_any {w : World} {B g n c i : Nat} {rb : Nat → Nat} {T : Nat → Nat → Bool} (h : Tab w B g rb n T) (hi : i < n) (hn : n ≤ 100000) (_ : n ≤ c) : Calls Try.prog 77 #[.slice (some ⟨g, 0, none⟩) n c, .int .i64 (i : Nat)] w (LaPost w T n i) := by
  have HT := Lib.hid h
  have hwr : IntKind.i64.wrap ((n : Int) - 1) = (n : Int) - 1 := by rw [IntKind.wrap_i64]; omega
  have hi0 : (0 : Int) ≤ (i : Int) := by omega
  have hi1 : (i : Int) < (n : Int) := by omega
  clear h
  go_enter Try.func77, Try.ntmps77
  go_wp2_with fail
  go_loopw [5] (fun vi wr => ∃ j : Nat, j ≤ n ∧ vi = .int .i64 ((j : Int) - 1) ∧ (∀ k, j ≤ k → k < n → T i k = false) ∧ Below w.heap.size w wr) (fun vi _ => (intOf vi + 1).toNat)
  case atStart => exact ⟨n, Nat.le_refl _, rfl, (fun k h1 h2 => absurd h1 (by omega)), Below.refl _ _⟩
  case round =>
    obtain ⟨j, hj, rfl, hno, hb⟩ := hrel
    have HNO := Lib.hid hno
    have HB := Lib.hid hb
    have hTb := HT.out.below hb
    by_cases hj0 : 0 < j
    · obtain ⟨x, rfl⟩ : ∃ x, j = x + 1 := ⟨j - 1, by omega⟩
      have e1 : ((x + 1 : Nat) : Int) - 1 = (x : Int) := by omega
      rw [e1]
      have hx0 : (0 : Int) ≤ (x : Int) := by omega
      have hx1 : (x : Int) < (n : Int) := by omega
      have hwx : IntKind.i64.wrap ((x : Int) - 1) = (x : Int) - 1 := by rw [IntKind.wrap_i64]; omega
      have r0 := hTb.row i hi
      obtain ⟨c0, -⟩ := hTb.cell i x hi (by omega)
      cases hT : T i x
      · rw [hT] at c0
        have HN2 := Lib.hid (show ∀ k, x ≤ k → k < n → T i k = false from fun k h1 h2 => by
          rcases Nat.lt_or_ge x k with h' | h'
          · exact HNO.out k h' h2
          · obtain rfl : k = x := by omega
            exact hT)
        clear hno hb hTb hT e1
        go_wp2_with fail
        go_roundw
        case rel => exact ⟨x, by omega, rfl, HN2.out, HB.out⟩
        case measure => simp [intOf]
      · rw [hT] at c0
        have HFIN := Lib.hid (show LaPost w T n i (.returned (.int .i64 (x : Nat))) wr from ⟨x, rfl, .inr ⟨x, rfl, by omega, hT, fun k h1 h2 => HNO.out k h1 h2⟩, HB.out⟩)
        clear hno hb hTb hT e1
        go_wp2_with fail
        go_ret
        exact HFIN.out
    · obtain rfl : j = 0 := by omega
      have HFIN := Lib.hid (show LaPost w T n i (.returned (.int .i64 (-1))) wr from ⟨-1, rfl, .inl ⟨rfl, fun k hk => HNO.out k (Nat.zero_le _) hk⟩, HB.out⟩)
      clear hno hb hTb
      go_wp2_with fail
      go_ret
      exact HFIN.out
end Go.Proofs.Ytjnhmcgjeljcmaa
