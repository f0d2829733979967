/- BufTakes answers true. -/
import Derived.Test.YtmcapiikplflkaaBi
namespace Go.Proofs.Ytmcapiikplflkaa
open Go.RowKit Go.Maps

theorem and_lo (a b : Int) (n : Nat) (hb : b = (n : Int)) (hn : n < 4611686018427387904) : 0 ≤ bits BinOp.and IntKind.i64 a b ∧ bits BinOp.and IntKind.i64 a b ≤ n := by
  have hbn : (BitVec.ofInt 64 b).toNat = n := by
    rw [hb, BitVec.toNat_ofInt]; omega
  have h : (BitVec.ofInt 64 a &&& BitVec.ofInt 64 b).toNat ≤ n := by
    rw [BitVec.toNat_and]
    exact Nat.le_trans Nat.and_le_right (Nat.le_of_eq hbn)
  show 0 ≤ IntKind.i64.wrap ((BitVec.ofInt 64 a &&& BitVec.ofInt 64 b).toNat : Int) ∧ IntKind.i64.wrap ((BitVec.ofInt 64 a &&& BitVec.ofInt 64 b).toNat : Int) ≤ n
  rw [IntWalk.i64_in _ (by omega)]; omega
def TInv (w : World) (ap bp most : Nat) (bs : List UInt8) (g : Int) (n : Nat) (v i : Value) (wr : World) : Prop := ∃ (j k : Nat) (A : Option Addr) (c : Nat) (X Y : Nat → Prop), j ≤ n ∧ i = .int .i64 (j : Nat) ∧ v = .slice A k c ∧ k ≤ bs.length ∧ RowAt wr A k c (bs.take k) ∧ Far w A X Y ∧ Two w wr ap bp X Y (bs.drop k) most g bs most g
set_option maxHeartbeats 8000000 in
set_option maxRecDepth 100000 in
theorem bufTakes_walk (k : Int) (A B : Option Addr) (m d n c : Nat) (xs : List UInt8) (zs : List Int) (w : World) (hx : BytesAt w A m xs) (hmd : m ≤ d) (hdm : d ≤ maxLen) (hZ : IntsAt w B n zs) (hn : n ≤ maxLen) :
    Calls Try.prog 11 #[.int .i64 k, .slice A m d, .slice B n c] w fun e w' => e = .returned (.bool true) ∧ Below w.heap.size w w' := by
  have HX := Lib.hid hx
  have HZ := Lib.hid hZ
  have hxl := hx.1
  have HN := Lib.hid hn
  have HDM := Lib.hid hdm
  unfold maxLen at hn hdm
  obtain ⟨most, hmo⟩ : ∃ most, most = mostOf k := ⟨_, rfl⟩
  have C0 := Lib.hid (bs_new (w0 := w) k w (Below.refl _ _))
  rw [← hmo] at C0
  have HMO := Lib.hid hmo
  clear hx hZ hmo
  go_enter Try.func11, Try.ntmps11
  go_wp2_with fail
  refine C0.out.mono ?_
  rintro e w1 ⟨rfl, h1, -, -⟩
  have C := Lib.hid (two_new k h1)
  rw [← HMO.out] at C
  clear h1
  go_wp2_with fail
  refine C.out.mono ?_
  rintro e w2 ⟨rfl, h2⟩
  generalize hbp : w1.heap.size = bp at h2
  have HBP := Lib.hid hbp
  clear hbp
  go_wp2_with fail
  refine (balive_any _).mono ?_
  rintro e w3 ⟨rfl, b3⟩
  have h3 := h2.below b3
  have s3 := h3.a.size
  clear h2 b3
  by_cases hm5 : 5000 < m
  · have hm5' : (5000 : Int) < (m : Int) := by omega
    have HB := Lib.hid h3.a.old
    clear h3 s3
    go_wp2
    go_ret
    exact ⟨rfl, HB.out⟩
  · have hm5' : ¬ (5000 : Int) < (m : Int) := by omega
    have hmb : decide ((5000 : Int) < (m : Int)) = false := decide_eq_false hm5'
    obtain ⟨g, hg⟩ : ∃ g, g = goneBy [] xs most := ⟨_, rfl⟩
    obtain ⟨bs, hbs⟩ : ∃ bs, bs = ([] ++ xs).drop g := ⟨_, rfl⟩
    have HG := Lib.hid hg
    have HBS := Lib.hid hbs
    have PUT := Lib.hid (fun (V : World) (p : Nat) (Z : Nat → Prop) (h : BS w V p Z [] most 0) => show Calls Try.prog 45 #[.pointer (some ⟨p, 0, none⟩), .slice A m d] V (fun e w' => e = .returned (.int .i64 (g : Nat)) ∧ Aft w V p Z bs most (g : Nat) w') from by
      have := h.put (HX.out.up (fun b hb => h.old.block b hb) h.old.size) hmd HDM.out (by omega) (by decide) (by decide)
      rw [← HG.out, ← HBS.out, Int.zero_add] at this
      exact this)
    clear hg hbs s3 hxl
    have C := Lib.hid (PUT.out _ _ _ h3.a)
    go_wp2_with fail
    refine C.out.mono ?_
    rintro e w4 ⟨rfl, ha⟩
    obtain ⟨X4, h4, -, -⟩ := h3.left ha
    have C := Lib.hid (PUT.out _ _ _ h4.b)
    clear h3 ha
    go_wp2_with fail
    refine C.out.mono ?_
    rintro e w5 ⟨rfl, ha⟩
    obtain ⟨Y5, h5, -, -⟩ := h4.right ha
    have hbl := h5.a.size
    have e6 := row_empty w5
    have h6 := h5.below ((Below.refl w5.heap.size w5).alloc (Nat.le_refl _) (.cells #[] 5))
    have f6 : Far w (some ⟨w5.heap.size, 0, none⟩) X4 Y5 := far_new h5 (fun j hj => by obtain ⟨o, e⟩ := hj; injection e with e; injection e with e _ _; omega)
    have HB6 := Lib.hid (show TInv w w.heap.size bp most bs (g : Nat) n (.slice (some ⟨w5.heap.size, 0, none⟩) 0 0) (.int .i64 0) (w5.alloc (.cells #[] 5)) from ⟨0, 0, _, 0, X4, Y5, Nat.zero_le _, rfl, rfl, Nat.zero_le _, e6, f6, h6⟩)
    obtain ⟨L, hL⟩ : ∃ L, L = bs.length := ⟨_, rfl⟩
    have HL := Lib.hid hL
    rw [← hL] at hbl
    clear h4 ha PUT h5 e6 h6 f6 hL
    go_wp2_with fail
    go_loopw [9, 39] (fun v i wr => TInv w w.heap.size bp most bs (g : Nat) n v i wr) (fun _ i _ => n - (intOf i).toNat)
    case atStart => exact HB6.out
    case round =>
      clear HB6
      obtain ⟨j, k, A1, c1, X, Y, hj, rfl, rfl, hk, hr, hf, h⟩ := hrel
      rw [← HL.out] at hk
      by_cases hlt : j < n
      · have hlt' : (j : Int) < (n : Int) := by omega
        obtain ⟨b, o, rfl, hbw, hcells⟩ := HZ.out.2 (by omega)
        obtain ⟨z, hz⟩ : ∃ z, zs[j]? = some z := ⟨zs[j]'(by have := HZ.out.1; omega), List.getElem?_eq_getElem _⟩
        have y1 : wr.cell? ⟨b, o + j, none⟩ = some (.int .i64 z) := by
          rw [h.a.old.cell (p := ⟨b, o + j, none⟩) hbw]; exact hcells j z hz
        clear hcells hz
        by_cases h50 : j < 50
        · have h50' : (j : Int) < 50 := by omega
          have C := Lib.hid (h.a.take (bits BinOp.and IntKind.i64 z 15))
          generalize ht : takeN (bits BinOp.and IntKind.i64 z 15) (bs.drop k).length = t at C
          have htl : t ≤ L - k := by have := takeN_le (bits BinOp.and IntKind.i64 z 15) (bs.drop k).length; rw [ht, List.length_drop, ← HL.out] at this; exact this
          have HR := Lib.hid hr
          have HF := Lib.hid hf
          have HT := Lib.hid h
          clear ht hr hf h
          go_wp2_with fail
          refine C.out.mono ?_
          rintro e w6 ⟨A2, c2, rfl, r2, q2, k2, hn2⟩
          have h7 := HT.out.turnA q2 k2
          obtain ⟨A3, c3, w7, hrun, r3, f3, h8⟩ := h7.push (d := c2) 30 (far_row HR.out HF.out k2 (fun j hj => .inl hj)) HF.out r2.bytes (by omega)
          have HRUN := Lib.hid hrun
          rw [List.drop_drop] at h8
          have e3 : bs.take k ++ (bs.drop k).take t = bs.take (k + t) := List.take_add.symm
          rw [e3] at r3
          have H9 := Lib.hid (show TInv w w.heap.size bp most bs (g : Nat) n (.slice A3 (k + t) c3) (.int .i64 ((j + 1 : Nat) : Int)) w7 from ⟨j + 1, k + t, A3, c3, X, Y, by omega, rfl, rfl, by rw [← HL.out]; omega, r3, f3, h8⟩)
          clear C r2 q2 k2 hn2 h7 hrun r3 f3 h8 e3 HR HF HT
          go_wp2_with (at_builtin; refine wpList_append_run rfl (.tmp 46) (.tmp 50) 30 rfl _ _ _ rfl rfl HRUN.out ?_)
          go_roundw
          case rel =>
            have := H9.out
            rw [show (((j + 1 : Nat)) : Int) = (j : Int) + 1 by omega] at this
            exact this
          case measure => simp [intOf]; omega
        · have h50' : ¬ (j : Int) < 50 := by omega
          have H9 := Lib.hid (show TInv w w.heap.size bp most bs (g : Nat) n (.slice A1 k c1) (.int .i64 ((j + 1 : Nat) : Int)) wr from ⟨j + 1, k, A1, c1, X, Y, by omega, rfl, rfl, by rw [← HL.out]; omega, hr, hf, h⟩)
          clear hr hf h
          go_wp2_with fail
          go_roundw
          case rel =>
            have := H9.out
            rw [show (((j + 1 : Nat)) : Int) = (j : Int) + 1 by omega] at this
            exact this
          case measure => simp [intOf]; omega
      · have hlt' : ¬ (j : Int) < (n : Int) := by omega
        have C := Lib.hid (h.a.take 9999)
        have ht : takeN 9999 (bs.drop k).length = L - k := by unfold takeN; rw [List.length_drop, ← HL.out]; omega
        rw [ht] at C
        have HR := Lib.hid hr
        have HF := Lib.hid hf
        have HT := Lib.hid h
        clear ht hr hf h
        go_wp2_with fail
        refine C.out.mono ?_
        rintro e w6 ⟨A2, c2, rfl, r2, q2, k2, hn2⟩
        have h7 := HT.out.turnA q2 k2
        obtain ⟨A3, c3, w7, hrun, r3, f3, h8⟩ := h7.push (d := c2) 30 (far_row HR.out HF.out k2 (fun j hj => .inl hj)) HF.out r2.bytes (by omega)
        have HRUN := Lib.hid hrun
        rw [List.drop_drop, List.drop_of_length_le (by rw [← HL.out]; omega)] at h8
        have e3 : bs.take k ++ (bs.drop k).take (L - k) = bs := by rw [← List.take_add, List.take_of_length_le (by rw [← HL.out]; omega)]
        have e4 : k + (L - k) = L := by omega
        rw [e3, e4] at r3
        rw [e4] at HRUN
        have C := Lib.hid (h8.b.take 9999)
        have ht : takeN 9999 bs.length = L := by unfold takeN; rw [← HL.out]; omega
        rw [ht] at C
        have H8 := Lib.hid h8
        have HR3 := Lib.hid r3
        have HF3 := Lib.hid f3
        clear r2 q2 k2 hn2 h7 hrun r3 f3 h8 e3 e4 HR HF HT ht
        go_wp2_with (at_builtin; refine wpList_append_run rfl (.tmp 53) (.tmp 55) 30 rfl _ _ _ rfl rfl HRUN.out ?_)
        refine C.out.mono ?_
        rintro e w8 ⟨A4, c4, rfl, r4, q4, k4, hn4⟩
        have h9 := H8.out.turnB q4 k4
        have r9 := far_row HR3.out HF3.out k4 (fun j hj => .inr hj)
        rw [List.take_of_length_le (by rw [← HL.out]; omega)] at r4
        rw [List.drop_of_length_le (by rw [← HL.out]; omega)] at h9
        have C := Lib.hid (sameb_yes (c := c3) (d := c4) r9.bytes r4.bytes (by unfold maxLen; omega))
        have H9 := Lib.hid h9
        clear r4 q4 k4 hn4 h9 r9 HR3 HF3 H8 HRUN
        go_wp2_with fail
        refine C.out.mono ?_
        rintro e w9 ⟨rfl, b9⟩
        have h10 := H9.out.below b9
        have C := Lib.hid (show Calls _ _ _ _ (CloneP w9 0 []) from h10.a.bytes)
        have H10 := Lib.hid h10
        clear b9 H9 h10
        go_wp2_with fail
        refine C.out.mono ?_
        rintro e w10 ⟨A5, c5, rfl, -, -, b10⟩
        have h11 := H10.out.below b10
        have C := Lib.hid (show Calls _ _ _ _ (CloneP w10 0 []) from h11.b.bytes)
        have H11 := Lib.hid h11
        clear b10 H10 h11
        go_wp2_with fail
        refine C.out.mono ?_
        rintro e w11 ⟨A6, c6, rfl, -, -, b11⟩
        have h12 := H11.out.below b11
        have C := Lib.hid h12.a.went
        have C2 := Lib.hid h12.b.went
        have C3 := Lib.hid h12.a.full
        rw [show decide (([] : List UInt8).length = most) = false from decide_eq_false (by have := h12.a.size.2.1; simp; omega)] at C3
        have HB := Lib.hid h12.a.old
        clear b11 H11 h12
        go_wp2_with fail
        refine C.out.mono ?_
        rintro e w12 ⟨rfl, rfl⟩
        go_wp2_with fail
        refine C2.out.mono ?_
        rintro e w13 ⟨rfl, rfl⟩
        go_wp2_with fail
        refine C3.out.mono ?_
        rintro e w14 ⟨rfl, b14⟩
        have HB14 := Lib.hid (HB.out.trans (b14.mono HB.out.size))
        clear b14
        go_wp2
        go_ret
        exact ⟨rfl, HB14.out⟩
end Go.Proofs.Ytmcapiikplflkaa
