/- The reference's Table: of a Star, a Plus, a Maybe. (Written by wip/gen/gen_kyc.py.) -/
import Derived.Test.YtjnhmcgjeljcmaaKyb
namespace Go.Proofs.Ytjnhmcgjeljcmaa
open Go.RowKit Go.Maps

section
variable {A : Nat → Nat → Bool} {k i j n : Nat}
theorem war_ik : warT A (k + 1) i k = warT A k i k := by
  rw [warT]; cases warT A k i k <;> simp
theorem war_kj : warT A (k + 1) k j = warT A k k j := by
  rw [warT]; cases h : warT A k k k <;> cases warT A k k j <;> simp
theorem pw_ik : partT i j (warT A (k + 1)) (warT A k) i k = warT A k i k := by
  unfold partT; split
  · exact war_ik
  · rfl
theorem pw_ij : partT i j (warT A (k + 1)) (warT A k) i j = warT A k i j := by
  unfold partT; rw [if_neg (by omega)]
theorem pw_kj : partT i j (warT A (k + 1)) (warT A k) k j = warT A k k j := by
  unfold partT; split
  · exact war_kj
  · rfl
theorem pw_skip (h : warT A k i k = false) (a b : Nat) : partT (i + 1) 0 (warT A (k + 1)) (warT A k) a b = partT i j (warT A (k + 1)) (warT A k) a b := by
  unfold partT
  by_cases h1 : a < i
  · rw [if_pos (by omega), if_pos (by omega)]
  · by_cases h2 : a = i
    · subst h2
      have e : warT A (k + 1) a b = warT A k a b := by rw [warT, h]; simp
      rw [if_pos (by omega)]
      split
      · rfl
      · exact e
    · rw [if_neg (by omega), if_neg (by omega)]
end
set_option maxHeartbeats 2000000 in
set_option maxRecDepth 100000 in
theorem table6_any {d : Nat} (IH : TabIH d) (rs : List (UInt8 × UInt8)) (t : Tr) (r : List Tr) (A A' : Option Addr) (n c n' c' : Nat) (s : ByteArray) (w : World) (hk : KidsT w d n' A' (t :: r)) (hn : n' ≤ maxLen) (hgd : GoodT d t) (hs : s.size ≤ 99000) :
    Calls Try.prog 76 #[.agg #[.int .i64 6, .slice A n c, .slice A' n' c'], .string s] w (TabPost w (s.size + 1) (tabT s.data.toList (d + 1) (.mk 6 rs (t :: r)))) := by
  obtain ⟨T, hT⟩ : ∃ T, T = tabT s.data.toList d t := ⟨_, rfl⟩
  have HT0 : tabT s.data.toList (d + 1) (.mk 6 rs (t :: r)) = fun i j => T i j || eqT i j := by unfold tabT; rw [hT, if_neg (by decide), if_neg (by decide), if_neg (by decide), if_neg (by decide)]; rfl
  rw [HT0]
  clear HT0
  unfold maxLen at hn
  have k0 : Blk (w.alloc (.cells #[.int .i64 6, .slice A n c, .slice A' n' c'] 26)) w.heap.size 26 #[.int .i64 6, .slice A n c, .slice A' n' c'] := Blk.new w _ _
  have b0 : Below w.heap.size w (w.alloc (.cells #[.int .i64 6, .slice A n c, .slice A' n' c'] 26)) := (Below.refl _ w).alloc (Nat.le_refl _) _
  have hsz : (w.alloc (.cells #[.int .i64 6, .slice A n c, .slice A' n' c'] 26)).heap.size = w.heap.size + 1 := by simp
  have hkl : 0 < n' := by rw [← hk.1]; simp
  obtain ⟨b, o, rfl, hbl, hcells⟩ := hk.2 hkl
  obtain ⟨v0, v1, v2, e0, e1, e2, htr⟩ := hcells 0 t rfl
  rw [Nat.zero_mul, Nat.add_zero] at e0 e1 e2
  replace e0 := (b0.cell (p := ⟨b, o, none⟩) hbl).trans e0
  replace e1 := (b0.cell (p := ⟨b, o + 1, none⟩) hbl).trans e1
  replace e2 := (b0.cell (p := ⟨b, o + 2, none⟩) hbl).trans e2
  have hn0 : ((n' : Int) == 0) = false := by simp; omega
  have hn1 : (0 : Int) < (n' : Int) := by omega
  obtain ⟨N, hN⟩ : ∃ N, N = s.size + 1 := ⟨_, rfl⟩
  have hr := IH t v0 v1 v2 s (w.alloc (.cells #[.int .i64 6, .slice A n c, .slice (some ⟨b, o, none⟩) n' c'] 26)) ((htr.keep fun i hi => b0.block i hi).mono fun i hi => Nat.lt_of_lt_of_le hi b0.size) hgd hs
  have hS := fun W => samet_at s W hs
  rw [← hT, ← hN] at hr
  simp only [← hN] at hS
  rw [← hN]
  have HR := Lib.hid hr
  have HS := Lib.hid hS
  have K0 := Lib.hid k0
  have B0 := Lib.hid b0
  have hNb : N ≤ 100000 := by omega
  have hN0 : 0 < N := by omega
  clear k0 b0 hk hr hS hT IH hcells htr hN
  go_enter Try.func76, Try.ntmps76
  go_wp2_with fail
  refine HR.out.mono ?_
  rintro e w1 ⟨g, rb, cc, rfl, hc, ht, hb⟩
  have hb2 := B0.out.trans (hb.mono (by omega))
  have kw := K0.out.below hb (by omega)
  have hw01 : w1.cell? ⟨w.heap.size, 0, none⟩ = some (.int .i64 6) := kw.cell 0
  have HC := Lib.hid hc
  have HB := Lib.hid hb2
  have KW := Lib.hid kw
  clear HR
  have HT := Lib.hid ht
  clear hc ht hb hb2 kw
  go_wp2_with fail
  refine (HS.out _).mono ?_
  rintro e w2 ⟨g2, rb2, c2, rfl, hc2, ht2, hb2⟩
  have HX := Lib.hid (either_any (ca := cc) (cb := c2) (HT.out.below hb2) ht2 hN0 hNb)
  have HB2 := Lib.hid (HB.out.trans (hb2.mono HB.out.size))
  clear hc2 ht2 hb2
  go_wp2_with fail
  refine HX.out.mono ?_
  rintro e w3 ⟨g3, rb3, c3, rfl, hc3, ht3, hb3⟩
  have HT3 := Lib.hid ((ht3.mono (B' := w.heap.size) HB2.out.size).congr (T' := fun i j => T i j || eqT i j) (fun a b _ _ => rfl))
  have HC3 := Lib.hid hc3
  have HB3 := Lib.hid (HB2.out.trans (hb3.mono HB2.out.size))
  clear hc3 ht3 hb3 HX
  go_wp2
  go_ret
  exact ⟨g3, rb3, c3, rfl, HC3.out, HT3.out, HB3.out⟩
set_option maxHeartbeats 2000000 in
set_option maxRecDepth 100000 in
theorem table5_any {d : Nat} (IH : TabIH d) (rs : List (UInt8 × UInt8)) (t : Tr) (r : List Tr) (A A' : Option Addr) (n c n' c' : Nat) (s : ByteArray) (w : World) (hk : KidsT w d n' A' (t :: r)) (hn : n' ≤ maxLen) (hgd : GoodT d t) (hs : s.size ≤ 99000) :
    Calls Try.prog 76 #[.agg #[.int .i64 5, .slice A n c, .slice A' n' c'], .string s] w (TabPost w (s.size + 1) (tabT s.data.toList (d + 1) (.mk 5 rs (t :: r)))) := by
  obtain ⟨T, hT⟩ : ∃ T, T = tabT s.data.toList d t := ⟨_, rfl⟩
  have HT0 : tabT s.data.toList (d + 1) (.mk 5 rs (t :: r)) = warT T (s.size + 1) := by unfold tabT; rw [hT, if_neg (by decide), if_neg (by decide), if_neg (by decide), if_neg (by decide)]; rfl
  rw [HT0]
  clear HT0
  unfold maxLen at hn
  have k0 : Blk (w.alloc (.cells #[.int .i64 5, .slice A n c, .slice A' n' c'] 26)) w.heap.size 26 #[.int .i64 5, .slice A n c, .slice A' n' c'] := Blk.new w _ _
  have b0 : Below w.heap.size w (w.alloc (.cells #[.int .i64 5, .slice A n c, .slice A' n' c'] 26)) := (Below.refl _ w).alloc (Nat.le_refl _) _
  have hsz : (w.alloc (.cells #[.int .i64 5, .slice A n c, .slice A' n' c'] 26)).heap.size = w.heap.size + 1 := by simp
  have hkl : 0 < n' := by rw [← hk.1]; simp
  obtain ⟨b, o, rfl, hbl, hcells⟩ := hk.2 hkl
  obtain ⟨v0, v1, v2, e0, e1, e2, htr⟩ := hcells 0 t rfl
  rw [Nat.zero_mul, Nat.add_zero] at e0 e1 e2
  replace e0 := (b0.cell (p := ⟨b, o, none⟩) hbl).trans e0
  replace e1 := (b0.cell (p := ⟨b, o + 1, none⟩) hbl).trans e1
  replace e2 := (b0.cell (p := ⟨b, o + 2, none⟩) hbl).trans e2
  have hn0 : ((n' : Int) == 0) = false := by simp; omega
  have hn1 : (0 : Int) < (n' : Int) := by omega
  obtain ⟨N, hN⟩ : ∃ N, N = s.size + 1 := ⟨_, rfl⟩
  have hr := IH t v0 v1 v2 s (w.alloc (.cells #[.int .i64 5, .slice A n c, .slice (some ⟨b, o, none⟩) n' c'] 26)) ((htr.keep fun i hi => b0.block i hi).mono fun i hi => Nat.lt_of_lt_of_le hi b0.size) hgd hs
  have hS := fun W => samet_at s W hs
  rw [← hT, ← hN] at hr
  simp only [← hN] at hS
  rw [← hN]
  have HR := Lib.hid hr
  have HS := Lib.hid hS
  have K0 := Lib.hid k0
  have B0 := Lib.hid b0
  have hNb : N ≤ 100000 := by omega
  have hN0 : 0 < N := by omega
  clear k0 b0 hk hr hS hT IH hcells htr hN
  go_enter Try.func76, Try.ntmps76
  go_wp2_with fail
  refine HR.out.mono ?_
  rintro e w1 ⟨g, rb, cc, rfl, hc, ht, hb⟩
  have hb2 := B0.out.trans (hb.mono (by omega))
  have kw := K0.out.below hb (by omega)
  have hw01 : w1.cell? ⟨w.heap.size, 0, none⟩ = some (.int .i64 5) := kw.cell 0
  have HC := Lib.hid hc
  have HB := Lib.hid hb2
  have KW := Lib.hid kw
  clear HR
  have HT := Lib.hid ((ht.mono (B' := w.heap.size + 1) (by omega)).congr (T' := partT 0 0 (warT T (0 + 1)) (warT T 0)) (fun a b _ _ => partT_start a b))
  clear hc ht hb hb2 kw
  go_wp2_with fail
  go_loopw [11, 12, 13] (fun vk _ _ wr => ∃ k : Nat, k ≤ N ∧ vk = .int .i64 (k : Nat) ∧ Tab wr (w.heap.size + 1) g rb N (partT 0 0 (warT T (k + 1)) (warT T k)) ∧ Below w.heap.size w wr ∧ Blk wr w.heap.size 26 #[.int .i64 5, .slice A n c, .slice (some ⟨b, o, none⟩) n' c']) (fun k _ _ _ => N - (intOf k).toNat)
  case atStart => exact ⟨0, Nat.zero_le _, rfl, HT.out, HB.out, KW.out⟩
  case round =>
    clear HT HB KW
    obtain ⟨k, hk, rfl, ht, hbw, hkw⟩ := hrel
    by_cases hltk : k < N
    · have hltk' : (k : Int) < (N : Int) := by omega
      have hk0 : (0 : Int) ≤ (k : Int) := by omega
      go_wp2_with fail
      go_loopw [12, 13] (fun vi _ wr => ∃ i : Nat, i ≤ N ∧ vi = .int .i64 (i : Nat) ∧ Tab wr (w.heap.size + 1) g rb N (partT i 0 (warT T (k + 1)) (warT T k)) ∧ Below w.heap.size w wr ∧ Blk wr w.heap.size 26 #[.int .i64 5, .slice A n c, .slice (some ⟨b, o, none⟩) n' c']) (fun i _ _ => N - (intOf i).toNat)
      case atStart => exact ⟨0, Nat.zero_le _, rfl, ht, hbw, hkw⟩
      case round =>
        clear ht hbw hkw
        obtain ⟨i, hi, rfl, ht, hbw, hkw⟩ := hrel
        by_cases hlti : i < N
        · have hlti' : (i : Int) < (N : Int) := by omega
          have hi0 : (0 : Int) ≤ (i : Int) := by omega
          go_wp2_with fail
          go_loopw [13] (fun vj wr => ∃ j : Nat, j ≤ N ∧ vj = .int .i64 (j : Nat) ∧ Tab wr (w.heap.size + 1) g rb N (partT i j (warT T (k + 1)) (warT T k)) ∧ Below w.heap.size w wr ∧ Blk wr w.heap.size 26 #[.int .i64 5, .slice A n c, .slice (some ⟨b, o, none⟩) n' c']) (fun j _ => N - (intOf j).toNat)
          case atStart => exact ⟨0, Nat.zero_le _, rfl, ht, hbw, hkw⟩
          case round =>
            clear ht hbw hkw
            obtain ⟨j, hj, rfl, ht, hbw, hkw⟩ := hrel
            have a0 := ht.row i hlti
            have a1 := (ht.cell i k hlti hltk).1
            rw [pw_ik] at a1
            have HKW := Lib.hid hkw
            clear hkw
            by_cases hltj : j < N
            · have hltj' : (j : Int) < (N : Int) := by omega
              have hj0 : (0 : Int) ≤ (j : Int) := by omega
              cases hak : warT T k i k
              · rw [hak] at a1
                have HT2 := Lib.hid (ht.congr (T' := partT (i + 1) 0 (warT T (k + 1)) (warT T k)) (fun a b _ _ => pw_skip hak a b))
                clear ht hak
                go_wp2
                go_roundw
                case rel => exact ⟨i + 1, by omega, by go_num, HT2.out, hbw, HKW.out⟩
                case measure => simp [intOf]; omega
              · rw [hak] at a1
                have b0 := ht.row k hltk
                have b1 := (ht.cell k j hltk hltj).1
                rw [pw_kj] at b1
                obtain ⟨c0, f0⟩ := ht.cell i j hlti hltj
                rw [pw_ij] at c0
                have hB := (ht.blk i hlti).1
                have HAK := Lib.hid hak
                clear hak
                cases hv : warT T k i j
                · rw [hv] at c0
                  have HT2 := Lib.hid (ht.drew.set_ (T' := partT i (j + 1) (warT T (k + 1)) (warT T k)) hlti hltj (v := warT T k k j) (fun a b _ _ => partT_step (by rw [warT, hv, HAK.out]; simp) a b))
                  clear ht hv
                  generalize warT T k k j = tb at *
                  go_wp2_with fail
                  go_still_tail 22, (by kernel_rfl)
                  change wpList _ _ _ _ _ wr.drew
                  go_wp2
                  go_roundw
                  case rel => exact ⟨j + 1, by omega, by go_num, HT2.out, hbw.trans ⟨rfl, rfl, rfl, by simp [World.setCell], fun x hx => Below.heap_setCell wr _ _ x (by show x ≠ rb i; omega)⟩, HKW.out.drew.far (by show w.heap.size ≠ rb i; omega) _⟩
                  case measure => simp [intOf]; omega
                · rw [hv] at c0
                  have HT2 := Lib.hid (ht.drew.set_ (T' := partT i (j + 1) (warT T (k + 1)) (warT T k)) hlti hltj (v := true) (fun a b _ _ => partT_step (by rw [warT, hv]; simp) a b))
                  clear ht hv
                  go_wp2_with fail
                  go_region
                  go_wp2
                  go_roundw
                  case rel => exact ⟨j + 1, by omega, by go_num, HT2.out, hbw.trans ⟨rfl, rfl, rfl, by simp [World.setCell], fun x hx => Below.heap_setCell wr _ _ x (by show x ≠ rb i; omega)⟩, HKW.out.drew.far (by show w.heap.size ≠ rb i; omega) _⟩
                  case measure => simp [intOf]; omega
            · obtain rfl : N = j := by omega
              have hltj' : ¬ (N : Int) < (N : Int) := by omega
              have HT2 := Lib.hid (ht.congr (T' := partT (i + 1) 0 (warT T (k + 1)) (warT T k)) (fun a b _ hb => partT_row a b hb))
              clear ht
              go_wp2
              go_roundw
              case rel => exact ⟨i + 1, by omega, by go_num, HT2.out, hbw, HKW.out⟩
              case measure => simp [intOf]; omega
        · obtain rfl : N = i := by omega
          have hlti' : ¬ (N : Int) < (N : Int) := by omega
          have HT2 := Lib.hid (ht.congr (T' := partT 0 0 (warT T (k + 1 + 1)) (warT T (k + 1))) (fun a b ha _ => (partT_start a b).trans (partT_full (G := warT T (k + 1)) (F := warT T k) a b ha).symm))
          clear ht
          go_wp2
          go_roundw
          case rel => exact ⟨k + 1, by omega, by go_num, HT2.out, hbw, hkw⟩
          case measure => simp [intOf]; omega
    · obtain rfl : N = k := by omega
      have hltk' : ¬ (N : Int) < (N : Int) := by omega
      have HT2 := Lib.hid (ht.congr (T' := warT T N) (fun a b _ _ => (partT_start (G := warT T (N + 1)) (F := warT T N) a b).symm))
      have hw0 : wr.cell? ⟨w.heap.size, 0, none⟩ = some (.int .i64 5) := hkw.cell 0
      have HBW := Lib.hid hbw
      clear ht hkw hbw
      go_wp2
      go_ret
      exact ⟨g, rb, cc, rfl, HC.out, HT2.out.mono (by omega), HBW.out⟩
set_option maxHeartbeats 2000000 in
set_option maxRecDepth 100000 in
theorem table4_any {d : Nat} (IH : TabIH d) (rs : List (UInt8 × UInt8)) (t : Tr) (r : List Tr) (A A' : Option Addr) (n c n' c' : Nat) (s : ByteArray) (w : World) (hk : KidsT w d n' A' (t :: r)) (hn : n' ≤ maxLen) (hgd : GoodT d t) (hs : s.size ≤ 99000) :
    Calls Try.prog 76 #[.agg #[.int .i64 4, .slice A n c, .slice A' n' c'], .string s] w (TabPost w (s.size + 1) (tabT s.data.toList (d + 1) (.mk 4 rs (t :: r)))) := by
  obtain ⟨T, hT⟩ : ∃ T, T = tabT s.data.toList d t := ⟨_, rfl⟩
  have HT0 : tabT s.data.toList (d + 1) (.mk 4 rs (t :: r)) = fun i j => warT T (s.size + 1) i j || eqT i j := by unfold tabT; rw [hT, if_neg (by decide), if_neg (by decide), if_neg (by decide), if_neg (by decide)]; rfl
  rw [HT0]
  clear HT0
  unfold maxLen at hn
  have k0 : Blk (w.alloc (.cells #[.int .i64 4, .slice A n c, .slice A' n' c'] 26)) w.heap.size 26 #[.int .i64 4, .slice A n c, .slice A' n' c'] := Blk.new w _ _
  have b0 : Below w.heap.size w (w.alloc (.cells #[.int .i64 4, .slice A n c, .slice A' n' c'] 26)) := (Below.refl _ w).alloc (Nat.le_refl _) _
  have hsz : (w.alloc (.cells #[.int .i64 4, .slice A n c, .slice A' n' c'] 26)).heap.size = w.heap.size + 1 := by simp
  have hkl : 0 < n' := by rw [← hk.1]; simp
  obtain ⟨b, o, rfl, hbl, hcells⟩ := hk.2 hkl
  obtain ⟨v0, v1, v2, e0, e1, e2, htr⟩ := hcells 0 t rfl
  rw [Nat.zero_mul, Nat.add_zero] at e0 e1 e2
  replace e0 := (b0.cell (p := ⟨b, o, none⟩) hbl).trans e0
  replace e1 := (b0.cell (p := ⟨b, o + 1, none⟩) hbl).trans e1
  replace e2 := (b0.cell (p := ⟨b, o + 2, none⟩) hbl).trans e2
  have hn0 : ((n' : Int) == 0) = false := by simp; omega
  have hn1 : (0 : Int) < (n' : Int) := by omega
  obtain ⟨N, hN⟩ : ∃ N, N = s.size + 1 := ⟨_, rfl⟩
  have hr := IH t v0 v1 v2 s (w.alloc (.cells #[.int .i64 4, .slice A n c, .slice (some ⟨b, o, none⟩) n' c'] 26)) ((htr.keep fun i hi => b0.block i hi).mono fun i hi => Nat.lt_of_lt_of_le hi b0.size) hgd hs
  have hS := fun W => samet_at s W hs
  rw [← hT, ← hN] at hr
  simp only [← hN] at hS
  rw [← hN]
  have HR := Lib.hid hr
  have HS := Lib.hid hS
  have K0 := Lib.hid k0
  have B0 := Lib.hid b0
  have hNb : N ≤ 100000 := by omega
  have hN0 : 0 < N := by omega
  clear k0 b0 hk hr hS hT IH hcells htr hN
  go_enter Try.func76, Try.ntmps76
  go_wp2_with fail
  refine HR.out.mono ?_
  rintro e w1 ⟨g, rb, cc, rfl, hc, ht, hb⟩
  have hb2 := B0.out.trans (hb.mono (by omega))
  have kw := K0.out.below hb (by omega)
  have hw01 : w1.cell? ⟨w.heap.size, 0, none⟩ = some (.int .i64 4) := kw.cell 0
  have HC := Lib.hid hc
  have HB := Lib.hid hb2
  have KW := Lib.hid kw
  clear HR
  have HT := Lib.hid ((ht.mono (B' := w.heap.size + 1) (by omega)).congr (T' := partT 0 0 (warT T (0 + 1)) (warT T 0)) (fun a b _ _ => partT_start a b))
  clear hc ht hb hb2 kw
  go_wp2_with fail
  go_loopw [11, 12, 13] (fun vk _ _ wr => ∃ k : Nat, k ≤ N ∧ vk = .int .i64 (k : Nat) ∧ Tab wr (w.heap.size + 1) g rb N (partT 0 0 (warT T (k + 1)) (warT T k)) ∧ Below w.heap.size w wr ∧ Blk wr w.heap.size 26 #[.int .i64 4, .slice A n c, .slice (some ⟨b, o, none⟩) n' c']) (fun k _ _ _ => N - (intOf k).toNat)
  case atStart => exact ⟨0, Nat.zero_le _, rfl, HT.out, HB.out, KW.out⟩
  case round =>
    clear HT HB KW
    obtain ⟨k, hk, rfl, ht, hbw, hkw⟩ := hrel
    by_cases hltk : k < N
    · have hltk' : (k : Int) < (N : Int) := by omega
      have hk0 : (0 : Int) ≤ (k : Int) := by omega
      go_wp2_with fail
      go_loopw [12, 13] (fun vi _ wr => ∃ i : Nat, i ≤ N ∧ vi = .int .i64 (i : Nat) ∧ Tab wr (w.heap.size + 1) g rb N (partT i 0 (warT T (k + 1)) (warT T k)) ∧ Below w.heap.size w wr ∧ Blk wr w.heap.size 26 #[.int .i64 4, .slice A n c, .slice (some ⟨b, o, none⟩) n' c']) (fun i _ _ => N - (intOf i).toNat)
      case atStart => exact ⟨0, Nat.zero_le _, rfl, ht, hbw, hkw⟩
      case round =>
        clear ht hbw hkw
        obtain ⟨i, hi, rfl, ht, hbw, hkw⟩ := hrel
        by_cases hlti : i < N
        · have hlti' : (i : Int) < (N : Int) := by omega
          have hi0 : (0 : Int) ≤ (i : Int) := by omega
          go_wp2_with fail
          go_loopw [13] (fun vj wr => ∃ j : Nat, j ≤ N ∧ vj = .int .i64 (j : Nat) ∧ Tab wr (w.heap.size + 1) g rb N (partT i j (warT T (k + 1)) (warT T k)) ∧ Below w.heap.size w wr ∧ Blk wr w.heap.size 26 #[.int .i64 4, .slice A n c, .slice (some ⟨b, o, none⟩) n' c']) (fun j _ => N - (intOf j).toNat)
          case atStart => exact ⟨0, Nat.zero_le _, rfl, ht, hbw, hkw⟩
          case round =>
            clear ht hbw hkw
            obtain ⟨j, hj, rfl, ht, hbw, hkw⟩ := hrel
            have a0 := ht.row i hlti
            have a1 := (ht.cell i k hlti hltk).1
            rw [pw_ik] at a1
            have HKW := Lib.hid hkw
            clear hkw
            by_cases hltj : j < N
            · have hltj' : (j : Int) < (N : Int) := by omega
              have hj0 : (0 : Int) ≤ (j : Int) := by omega
              cases hak : warT T k i k
              · rw [hak] at a1
                have HT2 := Lib.hid (ht.congr (T' := partT (i + 1) 0 (warT T (k + 1)) (warT T k)) (fun a b _ _ => pw_skip hak a b))
                clear ht hak
                go_wp2
                go_roundw
                case rel => exact ⟨i + 1, by omega, by go_num, HT2.out, hbw, HKW.out⟩
                case measure => simp [intOf]; omega
              · rw [hak] at a1
                have b0 := ht.row k hltk
                have b1 := (ht.cell k j hltk hltj).1
                rw [pw_kj] at b1
                obtain ⟨c0, f0⟩ := ht.cell i j hlti hltj
                rw [pw_ij] at c0
                have hB := (ht.blk i hlti).1
                have HAK := Lib.hid hak
                clear hak
                cases hv : warT T k i j
                · rw [hv] at c0
                  have HT2 := Lib.hid (ht.drew.set_ (T' := partT i (j + 1) (warT T (k + 1)) (warT T k)) hlti hltj (v := warT T k k j) (fun a b _ _ => partT_step (by rw [warT, hv, HAK.out]; simp) a b))
                  clear ht hv
                  generalize warT T k k j = tb at *
                  go_wp2_with fail
                  go_still_tail 22, (by kernel_rfl)
                  change wpList _ _ _ _ _ wr.drew
                  go_wp2
                  go_roundw
                  case rel => exact ⟨j + 1, by omega, by go_num, HT2.out, hbw.trans ⟨rfl, rfl, rfl, by simp [World.setCell], fun x hx => Below.heap_setCell wr _ _ x (by show x ≠ rb i; omega)⟩, HKW.out.drew.far (by show w.heap.size ≠ rb i; omega) _⟩
                  case measure => simp [intOf]; omega
                · rw [hv] at c0
                  have HT2 := Lib.hid (ht.drew.set_ (T' := partT i (j + 1) (warT T (k + 1)) (warT T k)) hlti hltj (v := true) (fun a b _ _ => partT_step (by rw [warT, hv]; simp) a b))
                  clear ht hv
                  go_wp2_with fail
                  go_region
                  go_wp2
                  go_roundw
                  case rel => exact ⟨j + 1, by omega, by go_num, HT2.out, hbw.trans ⟨rfl, rfl, rfl, by simp [World.setCell], fun x hx => Below.heap_setCell wr _ _ x (by show x ≠ rb i; omega)⟩, HKW.out.drew.far (by show w.heap.size ≠ rb i; omega) _⟩
                  case measure => simp [intOf]; omega
            · obtain rfl : N = j := by omega
              have hltj' : ¬ (N : Int) < (N : Int) := by omega
              have HT2 := Lib.hid (ht.congr (T' := partT (i + 1) 0 (warT T (k + 1)) (warT T k)) (fun a b _ hb => partT_row a b hb))
              clear ht
              go_wp2
              go_roundw
              case rel => exact ⟨i + 1, by omega, by go_num, HT2.out, hbw, HKW.out⟩
              case measure => simp [intOf]; omega
        · obtain rfl : N = i := by omega
          have hlti' : ¬ (N : Int) < (N : Int) := by omega
          have HT2 := Lib.hid (ht.congr (T' := partT 0 0 (warT T (k + 1 + 1)) (warT T (k + 1))) (fun a b ha _ => (partT_start a b).trans (partT_full (G := warT T (k + 1)) (F := warT T k) a b ha).symm))
          clear ht
          go_wp2
          go_roundw
          case rel => exact ⟨k + 1, by omega, by go_num, HT2.out, hbw, hkw⟩
          case measure => simp [intOf]; omega
    · obtain rfl : N = k := by omega
      have hltk' : ¬ (N : Int) < (N : Int) := by omega
      have HT2 := Lib.hid (ht.congr (T' := warT T N) (fun a b _ _ => (partT_start (G := warT T (N + 1)) (F := warT T N) a b).symm))
      have hw0 : wr.cell? ⟨w.heap.size, 0, none⟩ = some (.int .i64 4) := hkw.cell 0
      have HBW := Lib.hid hbw
      clear ht hkw hbw
      go_wp2_with fail
      refine (HS.out _).mono ?_
      rintro e w2 ⟨g2, rb2, c2, rfl, hc2, ht2, hb2⟩
      have HX := Lib.hid (either_any (ca := cc) (cb := c2) (HT2.out.below hb2) ht2 hN0 hNb)
      have HB2 := Lib.hid (HBW.out.trans (hb2.mono HBW.out.size))
      clear hc2 ht2 hb2
      go_wp2_with fail
      refine HX.out.mono ?_
      rintro e w3 ⟨g3, rb3, c3, rfl, hc3, ht3, hb3⟩
      have HT3 := Lib.hid ((ht3.mono (B' := w.heap.size) HB2.out.size).congr (T' := fun i j => warT T N i j || eqT i j) (fun a b _ _ => rfl))
      have HC3 := Lib.hid hc3
      have HB3 := Lib.hid (HB2.out.trans (hb3.mono HB2.out.size))
      clear hc3 ht3 hb3 HX
      go_wp2
      go_ret
      exact ⟨g3, rb3, c3, rfl, HC3.out, HT3.out, HB3.out⟩
end Go.Proofs.Ytjnhmcgjeljcmaa
