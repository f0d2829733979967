/- RexBack answers true. -/
import Derived.Test.YtjnhmcgjeljcmaaXtl
import Derived.Test.YtjnhmcgjeljcmaaXbs
import Derived.Deep.RegionHeld3
namespace Go.Proofs.Ytjnhmcgjeljcmaa
open Go.RowKit

theorem parseX_err2 {l : List UInt8} (h : ¬ (parseX l).2.1 = 0) : (parseX l).1 = zeroT := by
  unfold parseX treeOf at h ⊢
  by_cases hl : 256 < l.length
  · rw [if_pos hl]
  · rw [if_neg hl] at h ⊢
    cases hw : wholeW l with
    | ok t => rw [hw] at h; exact absurd rfl h
    | err c o => rfl
set_option maxHeartbeats 4000000 in
set_option maxRecDepth 100000 in
theorem rexBack_walk (s : ByteArray) (w : World) :
    Calls Try.prog 3 #[.string s] w fun e w' => e = .returned (.bool true) ∧ Below w.heap.size w w' := by
  by_cases hz : (parseX s.data.toList).2.1 = 0
  · obtain ⟨hl, t, nn, hw, hp⟩ := parseX_zero hz
    have HPS := Lib.hid (fun W => xparse_any s W)
    rw [hp] at HPS
    have hsz := whole_sized hw
    have hbk := (back_parse hw).2
    have HPT := Lib.hid (fun W => xparse_any ⟨(bodyT t).toArray⟩ W)
    rw [show (⟨(bodyT t).toArray⟩ : ByteArray).data.toList = bodyT t by simp, hbk] at HPT
    have HZ := Lib.hid (show (bodyT t).length ≤ 1000000000 ∧ stepsT t ≤ 900000 by omega)
    have hbl : (bodyT t).length ≤ 332800 := by omega
    clear hz hw hp hsz hbk hl
    go_enter Try.func3, Try.ntmps3
    go_wp2_with fail
    refine (parsing_any _).mono ?_
    rintro e w1 ⟨rfl, b1⟩
    go_wp2_with fail
    refine (telling_any _).mono ?_
    rintro e w2 ⟨rfl, b2⟩
    have hb2 := b1.trans (b2.mono b1.size)
    go_wp2_with fail
    refine (HPS.out _).mono ?_
    rintro e w3 ⟨d, k, A, n, c, A', n', c', rfl, ht, b3⟩
    have hb3 := hb2.trans (b3.mono hb2.size)
    have bal3 : Below w3.heap.size w3 (w3.alloc (.cells #[.int .i64 k, .slice A n c, .slice A' n' c'] 26)) := (Below.refl _ _).alloc (Nat.le_refl _) _
    have HT := Lib.hid (ht.up (fun j hj => hj.2) bal3 (Nat.le_refl _))
    have BN := Blk.new w3 26 #[.int .i64 k, .slice A n c, .slice A' n' c']
    have hb3' := hb3.trans (bal3.mono hb3.size)
    clear ht b1 b2 b3 hb2
    go_wp2_with fail
    refine (text_any t d k A n c A' n' c' _ HT.out HZ.out.1 HZ.out.2).mono ?_
    rintro e w4 ⟨rfl, b4⟩
    have HT4 := Lib.hid (HT.out.up (fun _ h => h) b4 (Nat.le_refl _))
    have BN4 := BN.below b4 BN.lt
    have hb4 := hb3'.trans (b4.mono hb3'.size)
    clear HT BN
    by_cases hlong : 256 < (bodyT t).length
    · rw [if_pos hlong] at HPT
      have hlong' : (256 : Int) < ((bodyT t).length : Int) := by omega
      go_wp2_with fail
      refine (HPT.out _).mono ?_
      rintro e w5 ⟨d5, k5, B, m, g, B', m', g', rfl, ht5, b5⟩
      have hb5 := hb4.trans (b5.mono hb4.size)
      clear ht5
      go_wp2
      go_ret
      exact ⟨rfl, hb5.alloc hb5.size _⟩
    rw [if_neg hlong] at HPT
    have hlong' : ¬ (256 : Int) < ((bodyT t).length : Int) := by omega
    go_wp2_with fail
    refine (HPT.out _).mono ?_
    rintro e w5 ⟨d5, k5, B, m, g, B', m', g', rfl, ht5, b5⟩
    have hb5 := hb4.trans (b5.mono hb4.size)
    have bal : Below w5.heap.size w5 (w5.alloc (.cells #[.int .i64 k5, .slice B m g, .slice B' m' g'] 26)) := (Below.refl _ _).alloc (Nat.le_refl _) _
    have BM := Blk.new w5 26 #[.int .i64 k5, .slice B m g, .slice B' m' g']
    have BN5 := BN4.below b5 BN4.lt
    have X1 := Lib.hid ((HT4.out.up (d' := max d d5) (fun _ h => h) b5 (Nat.le_max_left _ _)).up (fun _ h => h) bal (Nat.le_refl _))
    have X2 := Lib.hid (ht5.up (d' := max d d5) (fun j hj => hj.2) bal (Nat.le_max_right _ _))
    have HW9 := Lib.hid (hb5.trans (bal.mono hb5.size))
    have HBM := Lib.hid BM
    obtain ⟨F0, F1, F2, _, _, _⟩ := blk3 BN5
    have l3 := BN5.lt
    clear ht5 BN4 BN5 BM HT4 bal hb5 b5 hb4 b4 HPS HPT
    go_wp2_with fail
    refine (same_yes _ _ _ _ _ _ _ _ _ X1.out X2.out).mono ?_
    rintro e w8 ⟨rfl, hb8⟩
    obtain ⟨G0, G1, G2, _, _, _⟩ := blk3 (HBM.out.below hb8 HBM.out.lt)
    have HT8 := Lib.hid (X2.out.up (fun _ h => h) hb8 (Nat.le_refl _))
    have HW8 := Lib.hid (HW9.out.trans (hb8.mono HW9.out.size))
    clear hb8 HBM
    go_wp2_with fail
    refine (text_any t _ k5 B m g B' m' g' _ HT8.out HZ.out.1 HZ.out.2).mono ?_
    rintro e w9 ⟨rfl, hb9⟩
    go_wp2
    go_ret
    exact ⟨rfl, HW8.out.trans (hb9.mono HW8.out.size)⟩
  · have hzt := parseX_err2 hz
    have HPS := Lib.hid (fun W => xparse_any s W)
    obtain ⟨z, hzz⟩ : ∃ z, z = (parseX s.data.toList).2.1 := ⟨_, rfl⟩
    rw [show parseX s.data.toList = (zeroT, z, (parseX s.data.toList).2.2) by rw [← hzt, hzz]] at HPS
    generalize (parseX s.data.toList).2.2 = at2 at HPS
    rw [← hzz] at hz
    clear hzz hzt
    go_enter Try.func3, Try.ntmps3
    go_wp2_with fail
    refine (parsing_any _).mono ?_
    rintro e w1 ⟨rfl, b1⟩
    go_wp2_with fail
    refine (telling_any _).mono ?_
    rintro e w2 ⟨rfl, b2⟩
    have hb2 := b1.trans (b2.mono b1.size)
    go_wp2_with fail
    refine (HPS.out _).mono ?_
    rintro e w3 ⟨d, k, A, n, c, A', n', c', rfl, ht, b3⟩
    have hb3 := hb2.trans (b3.mono hb2.size)
    obtain ⟨rfl, hn', _, _⟩ := ht.heads
    obtain rfl : n' = 0 := hn'
    obtain rfl : n = 0 := by
      match d, ht with
      | d + 1, ht =>
        obtain ⟨A1, n1, c1, A2, n2, c2, h1, _, _, h3, _⟩ := ht
        simp only [List.cons.injEq, Value.slice.injEq] at h1
        have := h3.1
        simp at this
        omega
    clear ht
    go_wp2
    go_ret
    exact ⟨rfl, hb3.alloc hb3.size _⟩
end Go.Proofs.Ytjnhmcgjeljcmaa
