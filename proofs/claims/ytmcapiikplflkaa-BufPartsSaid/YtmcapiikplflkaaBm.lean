/- BufParts answers true. -/
import Derived.Test.YtmcapiikplflkaaBi
import Derived.Test.YtmcapiikplflkaaLq
namespace Go.Proofs.Ytmcapiikplflkaa
open Go.RowKit Go.Maps

theorem parts_more (xs p : List UInt8) (most : Nat) : goneBy (xs.drop (xs.length - most)) p most + (xs.length - most) = (xs ++ p).length - most ∧
    (xs.drop (xs.length - most) ++ p).drop (goneBy (xs.drop (xs.length - most)) p most) = (xs ++ p).drop ((xs ++ p).length - most) := by
  have e : goneBy (xs.drop (xs.length - most)) p most + (xs.length - most) = (xs ++ p).length - most := by
    unfold goneBy
    simp only [List.length_append, List.length_drop]
    omega
  refine ⟨e, ?_⟩
  have e2 : (xs ++ p).drop (xs.length - most) = xs.drop (xs.length - most) ++ p := List.drop_append_of_le_length (by omega)
  rw [← e, Nat.add_comm, ← List.drop_drop, e2]
def PartInv (w : World) (ap bp most n : Nat) (v gn i : Value) (wr : World) : Prop := ∃ (j K : Nat) (xs : List UInt8) (A : Option Addr) (c : Nat) (X Y : Nat → Prop), j ≤ n ∧ K = xs.length ∧ K ≤ 3000 * min j 30 ∧ i = .int .i64 (j : Nat) ∧ v = .slice A K c ∧ gn = .int .i64 ((K - most : Nat) : Int) ∧ RowAt wr A K c xs ∧ Far w A X Y ∧ Two w wr ap bp X Y (xs.drop (K - most)) most ((K - most : Nat) : Int) [] most 0
set_option maxHeartbeats 600000 in
set_option maxRecDepth 100000 in
theorem bufParts_walk (k k2 : Int) (A : Option Addr) (n c : Nat) (ps : List (Option Addr × Nat × Nat × List UInt8)) (w : World) (hp : PartsQ w A n ps) (hn : n ≤ maxLen) :
    Calls Try.prog 10 #[.int .i64 k, .slice A n c, .int .i64 k2] w fun e w' => e = .returned (.bool true) ∧ Below w.heap.size w w' := by
  have HP := Lib.hid hp
  unfold maxLen at hn
  obtain ⟨most, hmo⟩ : ∃ most, most = mostOf k := ⟨_, rfl⟩
  have C0 := Lib.hid (bs_new (w0 := w) k w (Below.refl _ _))
  rw [← hmo] at C0
  have HMO := Lib.hid hmo
  clear hp hmo
  go_enter Try.func10, Try.ntmps10
  go_wp2_with fail
  refine C0.out.mono ?_
  rintro e w1 ⟨rfl, h1, -, -⟩
  have C := Lib.hid (two_new k h1)
  rw [← HMO.out] at C
  clear h1
  go_wp2_with fail
  refine C.out.mono ?_
  rintro e w2 ⟨rfl, h2⟩
  generalize hbp : w1.heap.size = bp at h2
  have HBP := Lib.hid hbp
  clear hbp
  go_wp2_with fail
  refine (balive_any _).mono ?_
  rintro e w3 ⟨rfl, b3⟩
  have h3 := h2.below b3
  have HM := Lib.hid h3.a.size.2
  have h4 := h3.below ((Below.refl w3.heap.size w3).alloc (Nat.le_refl _) (.cells #[] 5))
  have f4 := far_new (A := some ⟨w3.heap.size, 0, none⟩) h3 (fun j hj => by obtain ⟨o, e⟩ := hj; injection e with e; injection e with e _ _; omega)
  have HB4 := Lib.hid (show PartInv w w.heap.size bp most n (.slice (some ⟨w3.heap.size, 0, none⟩) 0 0) (.int .i64 0) (.int .i64 0) (w3.alloc (.cells #[] 5)) from
    ⟨0, 0, [], _, 0, _, _, Nat.zero_le _, rfl, Nat.zero_le _, rfl, rfl, by rw [Nat.zero_sub]; rfl, row_empty w3, f4, by rw [Nat.zero_sub]; exact h4⟩)
  clear h2 b3 h3 h4 f4
  go_wp2_with fail
  go_loopw [9, 10, 34] (fun v gn i wr => PartInv w w.heap.size bp most n v gn i wr) (fun _ _ i _ => n - (intOf i).toNat)
  case atStart => exact HB4.out
  case round =>
    clear HB4
    obtain ⟨j, K, xs, A1, c1, X, Y, hj, hK, hK3, rfl, rfl, rfl, hr, hf, h⟩ := hrel
    have HK := Lib.hid hK
    clear hK
    by_cases hlt : j < n
    · have hlt' : (j : Int) < (n : Int) := by omega
      obtain ⟨pb, po, rfl, hpb, hpc⟩ := HP.out.2.2 (by omega)
      obtain ⟨p, hpj⟩ : ∃ p, ps[j]? = some p := ⟨ps[j]'(by have := HP.out.1; omega), List.getElem?_eq_getElem _⟩
      obtain ⟨hpB, hpm, hpd⟩ := HP.out.2.1 p (List.mem_of_getElem? hpj)
      have y0 : wr.cell? ⟨pb, po + j, none⟩ = some (.slice p.1 p.2.1 p.2.2.1) := by
        rw [h.a.old.cell (p := ⟨pb, po + j, none⟩) hpb]; exact hpc j p hpj
      clear hpc hpj
      obtain ⟨pA, pn, pc, bs⟩ := p
      simp only at hpB hpm hpd y0
      have HPB := Lib.hid hpB
      clear hpB
      by_cases hskip : 30 ≤ j ∨ 3000 < pn
      · have H9 := Lib.hid (show PartInv w w.heap.size bp most n (.slice A1 K c1) (.int .i64 ((K - most : Nat) : Int)) (.int .i64 ((j + 1 : Nat) : Int)) wr from
          ⟨j + 1, K, xs, A1, c1, X, Y, by omega, HK.out, by omega, rfl, rfl, rfl, hr, hf, h⟩)
        clear hr hf h
        rcases Nat.lt_or_ge j 30 with h30 | h30
        · have h30' : ¬ (30 : Int) ≤ (j : Int) := by omega
          have h3000 : (3000 : Int) < (pn : Int) := by omega
          go_wp2
          go_roundw
          case rel =>
            have := H9.out
            rw [show (((j + 1 : Nat)) : Int) = (j : Int) + 1 by omega] at this
            exact this
          case measure => simp [intOf]; omega
        · have h30' : (30 : Int) ≤ (j : Int) := by omega
          go_wp2
          go_roundw
          case rel =>
            have := H9.out
            rw [show (((j + 1 : Nat)) : Int) = (j : Int) + 1 by omega] at this
            exact this
          case measure => simp [intOf]; omega
      · have h30' : ¬ (30 : Int) ≤ (j : Int) := by omega
        have h3000 : ¬ (3000 : Int) < (pn : Int) := by omega
        have hpl := HPB.out.1
        obtain ⟨pm, pe⟩ := parts_more xs bs most
        rw [← HK.out] at pm pe
        obtain ⟨q, hq⟩ : ∃ q, q = goneBy (xs.drop (K - most)) bs most := ⟨_, rfl⟩
        rw [← hq] at pm pe
        have hql : (xs ++ bs).length = K + pn := by rw [List.length_append, ← HK.out, hpl]
        rw [hql] at pm pe
        have hxb := HPB.out.up (fun b hb => h.a.old.block b hb) h.a.old.size
        have C := h.a.put (d := pc) hxb hpm hpd (by omega) (by omega) (by omega)
        rw [← hq, pe, show ((K - most : Nat) : Int) + ((q : Nat) : Int) = ((K + pn - most : Nat) : Int) by omega] at C
        have C := Lib.hid C
        have hqi : ((K - most : Nat) : Int) + (q : Int) = ((K + pn - most : Nat) : Int) := by omega
        have HQL := Lib.hid hql
        have HR := Lib.hid hr
        have HF := Lib.hid hf
        have HT := Lib.hid h
        clear hq hql hr hf h hxb hpl pm pe hskip
        go_wp2_with fail
        refine C.out.mono ?_
        rintro e w5 ⟨rfl, ha⟩
        obtain ⟨X5, h5, hk5, hs5⟩ := HT.out.left ha
        have r5 := far_row HR.out HF.out hk5 (fun j hj => .inl hj)
        have f5 : Far w A1 X5 Y := fun j hj => ⟨fun hx => by
          rcases hs5 j hx with h6 | h6
          · exact (HF.out j hj).1 h6
          · have := HR.out.lt hj; omega, (HF.out j hj).2⟩
        obtain ⟨A3, c3, w7, hrun, r3, f3, h8, -, -⟩ := h5.push (d := pc) 30 r5 f5 (HPB.out.up (fun b hb => h5.a.old.block b hb) h5.a.old.size) (by omega)
        have HRUN := Lib.hid hrun
        have H9 := Lib.hid (show PartInv w w.heap.size bp most n (.slice A3 (K + pn) c3) (.int .i64 ((K + pn - most : Nat) : Int)) (.int .i64 ((j + 1 : Nat) : Int)) w7 from
          ⟨j + 1, K + pn, xs ++ bs, A3, c3, X5, Y, by omega, HQL.out.symm, by omega, rfl, rfl, rfl, r3, f3, h8⟩)
        clear C ha h5 hk5 hs5 r5 f5 hrun r3 f3 h8 HR HF HT
        go_wp2_with (at_builtin; refine wpList_append_run rfl (.tmp 51) (.tmp 52) 30 rfl _ _ _ rfl rfl HRUN.out ?_)
        go_roundw
        case rel =>
          have := H9.out
          rw [show (((j + 1 : Nat)) : Int) = (j : Int) + 1 by omega] at this
          exact this
        case measure => simp [intOf]; omega
    · have hlt' : ¬ (j : Int) < (n : Int) := by omega
      have hm12 := HM.out
      have hrl := hr.le
      obtain ⟨L, hL⟩ : ∃ L, L = K - (K - most) := ⟨_, rfl⟩
      have hLm : L ≤ 2000 := by omega
      obtain ⟨g, hg⟩ : ∃ g, g = K - most := ⟨_, rfl⟩
      have hgK : g ≤ K := by omega
      have hKg : K - g = L := by omega
      have hgL : (g : Int) + (L : Int) = (K : Int) := by omega
      have C := h.b.put (d := c1) hr.bytes hrl hr.max (by omega) (by decide) (by decide)
      have e1 : goneBy [] xs most = g := by unfold goneBy; rw [List.nil_append, ← HK.out]; exact hg.symm
      rw [e1, List.nil_append, Int.zero_add] at C
      rw [← hg] at h ⊢
      have C := Lib.hid C
      obtain ⟨bs, hbs⟩ : ∃ bs, bs = xs.drop g := ⟨_, rfl⟩
      have hbl : bs.length = L := by rw [hbs, List.length_drop, ← HK.out]; exact hKg
      rw [← hbs] at C h
      have HBS := Lib.hid hbs
      have HBL := Lib.hid hbl
      have HR := Lib.hid hr
      have HF := Lib.hid hf
      have HT := Lib.hid h
      have hcm := hr.max
      unfold maxLen at hcm
      clear hr hf h e1 hg hL hbs hbl
      go_wp2_with fail
      refine C.out.mono ?_
      rintro e w5 ⟨rfl, ha⟩
      obtain ⟨Y5, h5, hk5, hs5⟩ := HT.out.right ha
      have r5 := far_row HR.out HF.out hk5 (fun j hj => .inr hj)
      have HF5 := Lib.hid (show Far w A1 X Y5 from fun j hj => ⟨(HF.out j hj).1, fun hx => by
          rcases hs5 j hx with h6 | h6
          · exact (HF.out j hj).2.1 h6
          · have := HR.out.lt hj; omega, (HF.out j hj).2.2⟩)
      have HR5 := Lib.hid r5
      have H5 := Lib.hid h5
      have C := Lib.hid h5.a.went
      clear ha h5 hk5 hs5 r5 HR HF HT
      go_wp2_with fail
      refine C.out.mono ?_
      rintro e w6 ⟨rfl, rfl⟩
      have C := Lib.hid H5.out.a.bytes
      rw [HBL.out] at C
      go_wp2_with fail
      refine C.out.mono ?_
      rintro e w7 ⟨Ax, cx, rfl, rx, nx, b7⟩
      have h7 := H5.out.below b7
      have HFX := Lib.hid (far_new H5.out nx)
      have C := Lib.hid h7.b.bytes
      rw [HBL.out] at C
      have HRX := Lib.hid rx
      have HR7 := Lib.hid (HR5.out.below b7)
      have H7 := Lib.hid h7
      clear rx nx b7 h7 HR5 H5
      go_wp2_with fail
      refine C.out.mono ?_
      rintro e w8 ⟨Ay, cy, rfl, ry, -, b8⟩
      have h8 := H7.out.below b8
      have rx8 := HRX.out.below b8
      have r8 := HR7.out.below b8
      have C := Lib.hid (sameb_yes (c := cx) (d := cy) rx8.bytes ry.bytes (by unfold maxLen; omega))
      have HRX8 := Lib.hid rx8
      have HR8 := Lib.hid r8
      have H8 := Lib.hid h8
      clear h8 rx8 r8 ry b8 HRX HR7 H7
      go_wp2_with fail
      refine C.out.mono ?_
      rintro e w9 ⟨rfl, b9⟩
      have h9 := H8.out.below b9
      have rx9 := HRX8.out.below b9
      have r9 := HR8.out.below b9
      obtain ⟨A9, hA9⟩ : ∃ A9, (if c1 = g then A1 else Option.map (fun x => x.add g) A1) = A9 := ⟨_, rfl⟩
      have C := Lib.hid (sameb_yes (B := A9) (c := cx) (d := c1 - g) rx9.bytes (by
        have := (r9.drop hgK).bytes
        rw [hKg, ← HBS.out, show behind A1 c1 g = A9 from hA9] at this
        exact this) (by unfold maxLen; omega))
      have HRX9 := Lib.hid rx9
      have H9 := Lib.hid h9
      clear h9 rx9 r9 b9 HRX8 HR8 H8
      go_wp2_with fail
      ((with_reducible refine C.out.mono ?_))
      rintro e w10 ⟨rfl, b10⟩
      have h10 := H9.out.below b10
      have C := h10.a.take k2
      have HRX10 := Lib.hid (HRX9.out.below b10)
      have H10 := Lib.hid h10
      clear h10 b10 hA9 HRX9 H9
      rw [HBL.out] at C
      obtain ⟨t, ht⟩ : ∃ t, t = takeN k2 L := ⟨_, rfl⟩
      have htL : t ≤ L := ht ▸ takeN_le k2 L
      rw [← ht] at C
      have C := Lib.hid C
      have HT2 := Lib.hid ht
      clear ht
      go_wp2_with fail
      ((with_reducible refine C.out.mono ?_))
      rintro e w11 ⟨At, ct, rfl, rt, q11, k11, n11⟩
      have h11 := H10.out.turnA q11 k11
      have HRX11 := Lib.hid (far_row HRX10.out HFX.out k11 (fun j hj => .inl hj))
      have C := h11.a.bytes
      rw [show (bs.drop t).length = L - t by rw [List.length_drop, HBL.out]] at C
      have C := Lib.hid C
      have HRT := Lib.hid rt
      have HN11 := Lib.hid n11
      have H11 := Lib.hid h11
      clear rt q11 k11 n11 h11 HRX10 H10
      go_wp2_with fail
      ((with_reducible refine C.out.mono ?_))
      rintro e w12 ⟨Ar, cr, rfl, rr, -, b12⟩
      have h12 := H11.out.below b12
      have rx12 := HRX11.out.below b12
      have rt12 := HRT.out.below b12
      have bal : Below w12.heap.size w12 (w12.alloc (.cells #[] 5)) := (Below.refl _ w12).alloc (Nat.le_refl _) _
      have f12 := far_new (A := some ⟨w12.heap.size, 0, none⟩) h12 (fun j hj => by obtain ⟨o, e⟩ := hj; injection e with e; injection e with e _ _; omega)
      obtain ⟨A13, c13, w13, run13, r13, f13, h13, k13, in13⟩ := (h12.below bal).push (d := ct) 30 (row_empty w12) f12 (rt12.below bal).bytes (by omega)
      have nx13 : ∀ b, InB Ax b → ¬ InB (some ⟨w12.heap.size, 0, none⟩) b := fun b hb ⟨o, e⟩ => by
        have := rx12.lt hb
        injection e with e; injection e with e _ _; omega
      have nr13 : ∀ b, InB Ar b → ¬ InB (some ⟨w12.heap.size, 0, none⟩) b := fun b hb ⟨o, e⟩ => by
        have := rr.lt hb
        injection e with e; injection e with e _ _; omega
      have rx13 := (rx12.below bal).kept k13 nx13
      have rr13 := (rr.below bal).kept k13 nr13
      obtain ⟨A14, c14, w14, run14, r14, f14, h14, k14, in14⟩ := h13.push (d := cr) 30 r13 f13 rr13.bytes (by omega)
      have rx14 := rx13.kept k14 (fun b hb h => by
        have := rx12.lt hb
        rcases in13 b h with ⟨o, e⟩ | h2
        · injection e with e; injection e with e _ _; omega
        · simp at h2; omega)
      rw [List.nil_append, List.take_append_drop] at r14
      rw [Nat.zero_add] at run13 run14 r14
      rw [show t + (L - t) = L by omega] at run14 r14
      have CF := Lib.hid (sameb_yes (c := c14) (d := cx) r14.bytes rx14.bytes (by unfold maxLen; omega))
      have HR13 := Lib.hid run13
      have HR14 := Lib.hid run14
      have HO := Lib.hid h14.a.old
      have hsum : (t : Int) + ((L - t : Nat) : Int) = (L : Int) := by omega
      have hways : (k2 < 0 ∧ (t : Int) = 0) ∨ ∃ kk : Nat, k2 = (kk : Int) ∧ t = min kk L := by
        have := HT2.out
        unfold takeN at this
        rcases Int.lt_or_le k2 0 with h0 | h0
        · exact .inl ⟨h0, by omega⟩
        · exact .inr ⟨k2.toNat, by omega, by omega⟩
      clear h12 rx12 rt12 bal f12 run13 r13 f13 h13 k13 in13 nx13 nr13 rx13 rr13 run14 r14 f14 h14 k14 in14 rx14 rr b12 HRX11 HRT HN11 H11
      rcases hways with ⟨hk2, ht0⟩ | ⟨kk, rfl, hkt⟩
      · go_wp2_with (first
          | (at_builtin; refine wpList_append_run_g (by rfl) (.tmp 105) (.tmp 106) 30 rfl _ _ _ rfl rfl HR13.out ?_)
          | (at_builtin; refine wpList_append_run_g (by rfl) (.tmp 107) (.tmp 108) 30 rfl _ _ _ rfl rfl HR14.out ?_))
        ((with_reducible refine CF.out.mono ?_))
        rintro e w15 ⟨rfl, b15⟩
        have HB := Lib.hid (HO.out.trans (b15.mono HO.out.size))
        clear b15
        go_wp2
        go_ret
        exact ⟨rfl, HB.out⟩
      · have q1 : (if L < kk then (L : Int) else (kk : Int)) = (t : Int) := by split <;> omega
        clear hkt
        go_wp2_with (first
          | (at_builtin; refine wpList_append_run_g (by rfl) (.tmp 105) (.tmp 106) 30 rfl _ _ _ rfl rfl HR13.out ?_)
          | (at_builtin; refine wpList_append_run_g (by rfl) (.tmp 107) (.tmp 108) 30 rfl _ _ _ rfl rfl HR14.out ?_))
        ((with_reducible refine CF.out.mono ?_))
        rintro e w15 ⟨rfl, b15⟩
        have HB := Lib.hid (HO.out.trans (b15.mono HO.out.size))
        clear b15
        go_wp2
        go_ret
        exact ⟨rfl, HB.out⟩
end Go.Proofs.Ytmcapiikplflkaa
