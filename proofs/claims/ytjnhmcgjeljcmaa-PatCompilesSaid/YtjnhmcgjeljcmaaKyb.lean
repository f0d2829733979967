/- The reference's Table: of a Cat, of an Alt. (Written by wip/gen/gen_kyb.py.) -/
import Derived.Test.YtjnhmcgjeljcmaaKya
import Derived.Test.YtjnhmcgjeljcmaaKn
namespace Go.Proofs.Ytjnhmcgjeljcmaa
open Go.RowKit Go.Maps

/-- The reference's Table of trees of this depth. -/
def TabIH (d : Nat) : Prop := ∀ (t : Tr) (v0 v1 v2 : Value) (s : ByteArray) (w : World), TreeAt w (· < w.heap.size) d t [v0, v1, v2] → GoodT d t → s.size ≤ 99000 →
  Calls Try.prog 76 #[.agg #[v0, v1, v2], .string s] w (TabPost w (s.size + 1) (tabT s.data.toList d t))
/-- Kids in memory. -/
def KidsT (w : World) (d n' : Nat) (A' : Option Addr) (kids : List Tr) : Prop := kids.length = n' ∧ (0 < n' → ∃ b o, A' = some ⟨b, o, none⟩ ∧ b < w.heap.size ∧ ∀ i t, kids[i]? = some t → ∃ v0 v1 v2, w.cell? ⟨b, o + i * 3, none⟩ = some v0 ∧ w.cell? ⟨b, o + i * 3 + 1, none⟩ = some v1 ∧ w.cell? ⟨b, o + i * 3 + 2, none⟩ = some v2 ∧ TreeAt w (· < w.heap.size) d t [v0, v1, v2])
theorem take_succ_eq {α : Type} {l : List α} {i : Nat} {x : α} (h : l[i]? = some x) : l.take (i + 1) = l.take i ++ [x] := by rw [List.take_add_one, h]; rfl
set_option maxHeartbeats 1000000 in
set_option maxRecDepth 100000 in
theorem table2_any {d : Nat} (IH : TabIH d) (rs : List (UInt8 × UInt8)) (kids : List Tr) (A A' : Option Addr) (n c n' c' : Nat) (s : ByteArray) (w : World) (hk : KidsT w d n' A' kids) (hn : n' ≤ maxLen) (hgd : ∀ t, t ∈ kids → GoodT d t) (hs : s.size ≤ 99000) :
    Calls Try.prog 76 #[.agg #[.int .i64 2, .slice A n c, .slice A' n' c'], .string s] w (TabPost w (s.size + 1) (tabT s.data.toList (d + 1) (.mk 2 rs kids))) := by
  obtain ⟨F, hF⟩ : ∃ F : List Tr → Nat → Nat → Bool, F = fun ts => ts.foldl (fun T t => bothT T (tabT s.data.toList d t) (s.data.toList.length + 1)) eqT := ⟨_, rfl⟩
  have HT0 : tabT s.data.toList (d + 1) (.mk 2 rs kids) = F kids := by unfold tabT; rw [hF]; rw [if_neg (by decide), if_pos rfl]
  have hF0 : F [] = eqT := by rw [hF]; rfl
  have hFs : ∀ ts t, F (ts ++ [t]) = bothT (F ts) (tabT s.data.toList d t) (s.size + 1) := fun ts t => by rw [hF]; show List.foldl _ _ (ts ++ [t]) = _; rw [List.foldl_append]; rfl
  rw [HT0]
  clear HT0 hF
  unfold maxLen at hn
  have k0 : Blk (w.alloc (.cells #[.int .i64 2, .slice A n c, .slice A' n' c'] 26)) w.heap.size 26 #[.int .i64 2, .slice A n c, .slice A' n' c'] := Blk.new w _ _
  have b0 : Below w.heap.size w (w.alloc (.cells #[.int .i64 2, .slice A n c, .slice A' n' c'] 26)) := (Below.refl _ w).alloc (Nat.le_refl _) _
  have hsz : (w.alloc (.cells #[.int .i64 2, .slice A n c, .slice A' n' c'] 26)).heap.size = w.heap.size + 1 := by simp
  have HN := Lib.hid (fun W => none_at s W hs)
  have HS := Lib.hid (fun W => samet_at s W hs)
  have K0 := Lib.hid k0
  have B0 := Lib.hid b0
  have HK := Lib.hid hk
  have hkl := hk.1
  have HF0 := Lib.hid hF0
  have HFS := Lib.hid hFs
  have hN : 0 < s.size + 1 := by omega
  have HIH := Lib.hid IH
  clear k0 b0 hk hF0 hFs IH
  go_enter Try.func76, Try.ntmps76
  go_wp2_with fail
  refine (HN.out _).mono ?_
  rintro e w1 ⟨g, rb, cc, rfl, hc, ht, hb⟩
  have hb2 := B0.out.trans (hb.mono (by omega))
  have kw := K0.out.below hb (by omega)
  clear hc ht
  have K1 := Lib.hid kw
  have B1 := Lib.hid hb2
  have hw01 : w1.cell? ⟨w.heap.size, 0, none⟩ = some (.int .i64 2) := kw.cell 0
  clear hb2 kw hb
  go_wp2_with fail
  refine (HS.out _).mono ?_
  rintro e w2 ⟨g, rb, cc, rfl, hc, ht, hb⟩
  have hb2 := B1.out.trans (hb.mono B1.out.size)
  have kw := K1.out.below hb K1.out.lt
  have HT := Lib.hid ((ht.mono (B' := w.heap.size) B1.out.size).congr (T' := F (kids.take 0)) (fun a b _ _ => by rw [List.take_zero, HF0.out]; rfl))
  have HC := Lib.hid hc
  have HB := Lib.hid hb2
  have KW := Lib.hid kw
  clear hc ht hb hb2 kw
  go_wp2_with fail
  go_loopw [7, 8, 9] (fun v i _ wr => ∃ (m g cc : Nat) (rb : Nat → Nat), m ≤ n' ∧ i = .int .i64 (m : Nat) ∧ v = .slice (some ⟨g, 0, none⟩) (s.size + 1) cc ∧ s.size + 1 ≤ cc ∧ Tab wr w.heap.size g rb (s.size + 1) (F (kids.take m)) ∧ Below w.heap.size w wr ∧ Blk wr w.heap.size 26 #[.int .i64 2, .slice A n c, .slice A' n' c']) (fun _ i _ _ => n' - (intOf i).toNat)
  case atStart => exact ⟨0, g, cc, rb, Nat.zero_le _, rfl, rfl, HC.out, HT.out, HB.out, KW.out⟩
  case round =>
    clear HT HB KW HC
    obtain ⟨m, g, cc, rb, hm, rfl, rfl, hc, ht, hb, hkw⟩ := hrel
    have hbs := hb.size
    have hw0 : wr.cell? ⟨w.heap.size, 0, none⟩ = some (.int .i64 2) := hkw.cell 0
    have hw2 : wr.cell? ⟨w.heap.size, 2, none⟩ = some (.slice A' n' c') := hkw.cell 2
    have HT := Lib.hid ht
    have HB := Lib.hid hb
    have HKW := Lib.hid hkw
    by_cases hlt : m < n'
    · have hlt' : (m : Int) < (n' : Int) := by omega
      have hm0 : (0 : Int) ≤ (m : Int) := by omega
      obtain ⟨b, o, rfl, hbl, hcells⟩ := HK.out.2 (by omega)
      obtain ⟨t, htk⟩ : ∃ t, kids[m]? = some t := ⟨kids[m]'(by omega), List.getElem?_eq_getElem _⟩
      obtain ⟨v0, v1, v2, e0, e1, e2, htr⟩ := hcells m t htk
      replace e0 := (hb.cell (p := ⟨b, o + m * 3, none⟩) hbl).trans e0
      replace e1 := (hb.cell (p := ⟨b, o + m * 3 + 1, none⟩) hbl).trans e1
      replace e2 := (hb.cell (p := ⟨b, o + m * 3 + 2, none⟩) hbl).trans e2
      have HR := Lib.hid (HIH.out t v0 v1 v2 s wr ((htr.keep (w' := wr) (fun i hi => hb.block i hi)).mono fun i hi => Nat.lt_of_lt_of_le hi hbs) (hgd t (List.mem_of_getElem? htk)) hs)
      have HTK := Lib.hid (take_succ_eq htk)
      have hkc := hkw.lt
      clear ht hkw hb hcells htr htk
      go_wp2_with fail
      refine HR.out.mono ?_
      rintro e w3 ⟨g3, rb3, c3, rfl, hc3, ht3, hb3⟩
      have hw03 : w3.cell? ⟨w.heap.size, 0, none⟩ = some (.int .i64 2) := (hb3.cell (p := ⟨w.heap.size, 0, none⟩) hkc).trans hw0
      have HX := Lib.hid (both_any (ca := cc) (cb := c3) (HT.out.below hb3) ht3 hN (by omega))
      have HB3 := Lib.hid (HB.out.trans (hb3.mono hbs))
      have HKW3 := Lib.hid (HKW.out.below hb3 hkc)
      clear HR hc3 ht3 hb3
      go_wp2_with fail
      refine HX.out.mono ?_
      rintro e w4 ⟨g4, rb4, c4, rfl, hc4, ht4, hb4⟩
      have HT4 := Lib.hid ((ht4.mono (B' := w.heap.size) HB3.out.size).congr (T' := F (kids.take (m + 1))) (fun a b _ _ => by rw [HTK.out, HFS.out]))
      have HC4 := Lib.hid hc4
      have HB4 := Lib.hid (HB3.out.trans (hb4.mono HB3.out.size))
      have HKW4 := Lib.hid (HKW3.out.below hb4 HKW3.out.lt)
      clear hc4 ht4 hb4 HX
      go_wp2
      go_roundw
      case rel => exact ⟨m + 1, g4, c4, rb4, by omega, by go_num, rfl, HC4.out, HT4.out, HB4.out, HKW4.out⟩
      case measure => simp [intOf]; omega
    · obtain rfl : n' = m := by omega
      have hlt' : ¬ (n' : Int) < (n' : Int) := by omega
      have HTK := Lib.hid (show kids.take n' = kids from List.take_of_length_le (by omega))
      clear ht hkw hb
      go_wp2
      go_ret
      exact ⟨g, rb, cc, rfl, hc, by have := HT.out; rw [HTK.out] at this; exact this, HB.out⟩
set_option maxHeartbeats 1000000 in
set_option maxRecDepth 100000 in
theorem table3_any {d : Nat} (IH : TabIH d) (rs : List (UInt8 × UInt8)) (kids : List Tr) (A A' : Option Addr) (n c n' c' : Nat) (s : ByteArray) (w : World) (hk : KidsT w d n' A' kids) (hn : n' ≤ maxLen) (hgd : ∀ t, t ∈ kids → GoodT d t) (hs : s.size ≤ 99000) :
    Calls Try.prog 76 #[.agg #[.int .i64 3, .slice A n c, .slice A' n' c'], .string s] w (TabPost w (s.size + 1) (tabT s.data.toList (d + 1) (.mk 3 rs kids))) := by
  obtain ⟨F, hF⟩ : ∃ F : List Tr → Nat → Nat → Bool, F = fun ts => ts.foldl (fun T t i j => T i j || tabT s.data.toList d t i j) (fun _ _ => false) := ⟨_, rfl⟩
  have HT0 : tabT s.data.toList (d + 1) (.mk 3 rs kids) = F kids := by unfold tabT; rw [hF]; rw [if_neg (by decide), if_neg (by decide), if_pos rfl]
  have hF0 : F [] = fun _ _ => false := by rw [hF]; rfl
  have hFs : ∀ ts t, F (ts ++ [t]) = fun i j => F ts i j || tabT s.data.toList d t i j := fun ts t => by rw [hF]; show List.foldl _ _ (ts ++ [t]) = _; rw [List.foldl_append]; rfl
  rw [HT0]
  clear HT0 hF
  unfold maxLen at hn
  have k0 : Blk (w.alloc (.cells #[.int .i64 3, .slice A n c, .slice A' n' c'] 26)) w.heap.size 26 #[.int .i64 3, .slice A n c, .slice A' n' c'] := Blk.new w _ _
  have b0 : Below w.heap.size w (w.alloc (.cells #[.int .i64 3, .slice A n c, .slice A' n' c'] 26)) := (Below.refl _ w).alloc (Nat.le_refl _) _
  have hsz : (w.alloc (.cells #[.int .i64 3, .slice A n c, .slice A' n' c'] 26)).heap.size = w.heap.size + 1 := by simp
  have HN := Lib.hid (fun W => none_at s W hs)
  have HS := Lib.hid (fun W => samet_at s W hs)
  have K0 := Lib.hid k0
  have B0 := Lib.hid b0
  have HK := Lib.hid hk
  have hkl := hk.1
  have HF0 := Lib.hid hF0
  have HFS := Lib.hid hFs
  have hN : 0 < s.size + 1 := by omega
  have HIH := Lib.hid IH
  clear k0 b0 hk hF0 hFs IH
  go_enter Try.func76, Try.ntmps76
  go_wp2_with fail
  refine (HN.out _).mono ?_
  rintro e w1 ⟨g, rb, cc, rfl, hc, ht, hb⟩
  have hb2 := B0.out.trans (hb.mono (by omega))
  have kw := K0.out.below hb (by omega)
  have hw01 : w1.cell? ⟨w.heap.size, 0, none⟩ = some (.int .i64 3) := kw.cell 0
  have HT := Lib.hid ((ht.mono (B' := w.heap.size) (by omega)).congr (T' := F (kids.take 0)) (fun a b _ _ => by rw [List.take_zero, HF0.out]))
  have HC := Lib.hid hc
  have HB := Lib.hid hb2
  have KW := Lib.hid kw
  clear hc ht hb hb2 kw
  go_wp2_with fail
  go_loopw [7, 8, 9] (fun v i _ wr => ∃ (m g cc : Nat) (rb : Nat → Nat), m ≤ n' ∧ i = .int .i64 (m : Nat) ∧ v = .slice (some ⟨g, 0, none⟩) (s.size + 1) cc ∧ s.size + 1 ≤ cc ∧ Tab wr w.heap.size g rb (s.size + 1) (F (kids.take m)) ∧ Below w.heap.size w wr ∧ Blk wr w.heap.size 26 #[.int .i64 3, .slice A n c, .slice A' n' c']) (fun _ i _ _ => n' - (intOf i).toNat)
  case atStart => exact ⟨0, g, cc, rb, Nat.zero_le _, rfl, rfl, HC.out, HT.out, HB.out, KW.out⟩
  case round =>
    clear HT HB KW HC
    obtain ⟨m, g, cc, rb, hm, rfl, rfl, hc, ht, hb, hkw⟩ := hrel
    have hbs := hb.size
    have hw0 : wr.cell? ⟨w.heap.size, 0, none⟩ = some (.int .i64 3) := hkw.cell 0
    have hw2 : wr.cell? ⟨w.heap.size, 2, none⟩ = some (.slice A' n' c') := hkw.cell 2
    have HT := Lib.hid ht
    have HB := Lib.hid hb
    have HKW := Lib.hid hkw
    by_cases hlt : m < n'
    · have hlt' : (m : Int) < (n' : Int) := by omega
      have hm0 : (0 : Int) ≤ (m : Int) := by omega
      obtain ⟨b, o, rfl, hbl, hcells⟩ := HK.out.2 (by omega)
      obtain ⟨t, htk⟩ : ∃ t, kids[m]? = some t := ⟨kids[m]'(by omega), List.getElem?_eq_getElem _⟩
      obtain ⟨v0, v1, v2, e0, e1, e2, htr⟩ := hcells m t htk
      replace e0 := (hb.cell (p := ⟨b, o + m * 3, none⟩) hbl).trans e0
      replace e1 := (hb.cell (p := ⟨b, o + m * 3 + 1, none⟩) hbl).trans e1
      replace e2 := (hb.cell (p := ⟨b, o + m * 3 + 2, none⟩) hbl).trans e2
      have HR := Lib.hid (HIH.out t v0 v1 v2 s wr ((htr.keep (w' := wr) (fun i hi => hb.block i hi)).mono fun i hi => Nat.lt_of_lt_of_le hi hbs) (hgd t (List.mem_of_getElem? htk)) hs)
      have HTK := Lib.hid (take_succ_eq htk)
      have hkc := hkw.lt
      clear ht hkw hb hcells htr htk
      go_wp2_with fail
      refine HR.out.mono ?_
      rintro e w3 ⟨g3, rb3, c3, rfl, hc3, ht3, hb3⟩
      have hw03 : w3.cell? ⟨w.heap.size, 0, none⟩ = some (.int .i64 3) := (hb3.cell (p := ⟨w.heap.size, 0, none⟩) hkc).trans hw0
      have HX := Lib.hid (either_any (ca := cc) (cb := c3) (HT.out.below hb3) ht3 hN (by omega))
      have HB3 := Lib.hid (HB.out.trans (hb3.mono hbs))
      have HKW3 := Lib.hid (HKW.out.below hb3 hkc)
      clear HR hc3 ht3 hb3
      go_wp2_with fail
      refine HX.out.mono ?_
      rintro e w4 ⟨g4, rb4, c4, rfl, hc4, ht4, hb4⟩
      have HT4 := Lib.hid ((ht4.mono (B' := w.heap.size) HB3.out.size).congr (T' := F (kids.take (m + 1))) (fun a b _ _ => by rw [HTK.out, HFS.out]))
      have HC4 := Lib.hid hc4
      have HB4 := Lib.hid (HB3.out.trans (hb4.mono HB3.out.size))
      have HKW4 := Lib.hid (HKW3.out.below hb4 HKW3.out.lt)
      clear hc4 ht4 hb4 HX
      go_wp2
      go_roundw
      case rel => exact ⟨m + 1, g4, c4, rb4, by omega, by go_num, rfl, HC4.out, HT4.out, HB4.out, HKW4.out⟩
      case measure => simp [intOf]; omega
    · obtain rfl : n' = m := by omega
      have hlt' : ¬ (n' : Int) < (n' : Int) := by omega
      have HTK := Lib.hid (show kids.take n' = kids from List.take_of_length_le (by omega))
      clear ht hkw hb
      go_wp2
      go_ret
      exact ⟨g, rb, cc, rfl, hc, by have := HT.out; rw [HTK.out] at this; exact this, HB.out⟩
end Go.Proofs.Ytjnhmcgjeljcmaa
