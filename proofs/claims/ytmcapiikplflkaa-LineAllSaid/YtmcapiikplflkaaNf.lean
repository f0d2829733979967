/- LineAll answers true. -/
import Derived.Test.YtmcapiikplflkaaNe
import Derived.Test.YtmcapiikplflkaaBn
namespace Go.Proofs.Ytmcapiikplflkaa
open Go.RowKit Go.Maps

theorem below_drewN (B : Nat) (w : World) (q : Nat) : Below B w (w.drewN q) := ⟨rfl, rfl, rfl, Nat.le_refl _, fun _ _ => rfl⟩
/-- When the first j chunks have come. -/
def whenN (cks : List Ck) (j : Nat) : Int := ((cks.take j).map fun k => tk k.wait).sum
theorem whenN_succ {cks : List Ck} {j : Nat} {k : Ck} (h : cks[j]? = some k) : whenN cks (j + 1) = whenN cks j + tk k.wait := by
  obtain ⟨hl, e⟩ := List.getElem?_eq_some_iff.1 h
  unfold whenN
  rw [List.take_succ_eq_append_getElem hl, e, List.map_append, List.sum_append]
  simp
theorem whenN_bd (cks : List Ck) : ∀ j : Nat, 0 ≤ whenN cks j ∧ whenN cks j ≤ 1000000 * (j : Int)
  | 0 => by simp [whenN]
  | j + 1 => by
    have ih := whenN_bd cks j
    by_cases h : j < cks.length
    · have hk : cks[j]? = some cks[j] := List.getElem?_eq_getElem h
      rw [whenN_succ hk]
      have := tk_bd cks[j].wait
      omega
    · have e : whenN cks (j + 1) = whenN cks j := by
        unfold whenN
        rw [List.take_of_length_le (by omega), List.take_of_length_le (by omega)]
      rw [e]; omega
def sAll (cks : List Ck) (fin wait : Int) (j : Nat) : Ls := ⟨plainD (cks.drop j), fin, wait, whenN cks j, whenN cks j, []⟩
theorem sAll_next {cks : List Ck} {fin wait : Int} {j : Nat} {k : Ck} (h : cks[j]? = some k) (hj : j ≤ 300) : nextS (sAll cks fin wait j) 1125899906842624 = (1, k.bs, sAll cks fin wait (j + 1)) := by
  obtain ⟨hl, e⟩ := List.getElem?_eq_some_iff.1 h
  have hb := whenN_bd cks j
  have ht := tk_bd k.wait
  have hd : plainD (cks.drop j) = (k.wait, k.bs) :: plainD (cks.drop (j + 1)) := by
    rw [List.drop_eq_getElem_cons hl, e]; rfl
  unfold sAll nextS
  rw [hd]
  simp only
  rw [if_neg (by omega), whenN_succ h]
theorem sAll_end {cks : List Ck} {fin wait : Int} {j : Nat} (h : cks.length = j) (hj : j ≤ 300) :
    nextS (sAll cks fin wait j) 2251799813685248 = (if fin = 1 ∨ fin = 2 then (fin + 1, [], { sAll cks fin wait j with now := whenN cks j + tk wait }) else (4, [], { sAll cks fin wait j with now := 2251799813685248 })) := by
  have hb := whenN_bd cks j
  have ht := tk_bd wait
  have hd : plainD (cks.drop j) = [] := by rw [List.drop_of_length_le (by omega)]; rfl
  unfold sAll nextS
  rw [hd]
  simp only
  by_cases h1 : fin = 1 ∨ fin = 2
  · rw [if_pos h1, if_neg (by omega), if_pos h1]
  · rw [if_neg h1, if_neg h1, show max 2251799813685248 (whenN cks j) = 2251799813685248 by omega]
theorem sAll_again1 {cks : List Ck} {fin wait : Int} {j : Nat} (h : cks.length = j) (h1 : fin = 1 ∨ fin = 2) :
    nextS { sAll cks fin wait j with now := whenN cks j + tk wait } 0 = (fin + 1, [], { sAll cks fin wait j with now := whenN cks j + tk wait }) := by
  have hd : plainD (cks.drop j) = [] := by rw [List.drop_of_length_le (by omega)]; rfl
  have hb := whenN_bd cks j
  have ht := tk_bd wait
  unfold sAll nextS
  rw [hd]
  simp only
  rw [if_pos h1, if_neg (by omega)]
theorem sAll_again2 {cks : List Ck} {fin wait : Int} {j : Nat} (h : cks.length = j) (h1 : ¬ (fin = 1 ∨ fin = 2)) :
    nextS { sAll cks fin wait j with now := 2251799813685248 } 0 = (4, [], { sAll cks fin wait j with now := 2251799813685248 }) := by
  have hd : plainD (cks.drop j) = [] := by rw [List.drop_of_length_le (by omega)]; rfl
  unfold sAll nextS
  rw [hd]
  simp only
  rw [if_neg h1]
  rfl
theorem sAll_zero (cks : List Ck) (fin wait : Int) : sAll cks fin wait 0 = ⟨plainD cks, fin, wait, 0, 0, []⟩ := by simp [sAll, whenN]
def AInv (w : World) (lp n : Nat) (X R : Nat → Prop) (cks : List Ck) (fin wait : Int) (v i : Value) (V : World) : Prop := ∃ j : Nat, j ≤ n ∧ i = .int .i64 (j : Nat) ∧ v = .int .i64 (whenN cks j) ∧ LS w V lp X R (sAll cks fin wait j)
theorem tk_ways (n : Int) : (n < 0 ∧ tk n = 0) ∨ (¬ n < 0 ∧ 1000000 < n ∧ tk n = 1000000) ∨ (¬ n < 0 ∧ ¬ 1000000 < n ∧ tk n = n) := by unfold tk; omega
set_option maxHeartbeats 8000000 in
set_option maxRecDepth 100000 in
theorem lineAll_walk (A : Option Addr) (n c : Nat) (cks : List Ck) (fin wait : Int) (w : World) (h : ArgCh w A n cks) :
    Calls Try.prog 6 #[.agg #[.slice A n c, .int .i64 fin, .int .i64 wait]] w fun e w' => e = .returned (.bool true) ∧ Below w.heap.size w w' := by
  have hnb := h.2.1
  obtain ⟨w0, hw0⟩ : ∃ w0, w0 = w.alloc (.cells #[.slice A n c, .int .i64 fin, .int .i64 wait] 68) := ⟨_, rfl⟩
  have b0 : Below w.heap.size w w0 := hw0 ▸ (Below.refl _ w).alloc (Nat.le_refl _) _
  have h0 := h.below b0
  have hs0 : Blk w0 w.heap.size 68 #[.slice A n c, .int .i64 fin, .int .i64 wait] := hw0 ▸ Blk.new w _ _
  have C := Lib.hid (open_any (c := c) fin wait h0)
  have H0 := Lib.hid h0
  have HS0 := Lib.hid hs0
  have B0 := Lib.hid b0
  have HW0 := Lib.hid hw0
  rw [hw0] at C
  clear h h0 hs0 b0 hw0
  go_enter Try.func6, Try.ntmps6
  go_wp2_with fail
  ((with_reducible refine C.out.mono ?_))
  rw [← HW0.out]
  rintro e w1 ⟨lp, X, R, rfl, h1⟩
  clear C
  go_wp2_with fail
  refine (lalive_any _).mono ?_
  rintro e w2 ⟨rfl, b2⟩
  have h2 := h1.below b2
  have hw : w0.heap.size = w.heap.size + 1 := by rw [HW0.out]; simp
  have HSB := Lib.hid (fun (V : World) (hb : Below w0.heap.size w0 V) => show Blk V w.heap.size 68 #[.slice A n c, .int .i64 fin, .int .i64 wait] from HS0.out.below hb (by omega))
  obtain ⟨y0, y1, y2, -, -, -⟩ := blk3 (HSB.out _ h2.old)
  have HWS := Lib.hid hw
  clear h1 b2 hw
  by_cases h300 : 300 < n
  · have h300' : (300 : Int) < (n : Int) := by omega
    have HB := Lib.hid (B0.out.trans (h2.old.mono B0.out.size))
    clear h2
    go_wp2
    go_ret
    exact ⟨rfl, HB.out⟩
  · have h300' : ¬ (300 : Int) < (n : Int) := by omega
    have h300b : decide ((300 : Int) < (n : Int)) = false := decide_eq_false h300'
    have HI := Lib.hid (show AInv w0 lp n X R cks fin wait (.int .i64 0) (.int .i64 0) w2 from ⟨0, Nat.zero_le _, rfl, by simp [whenN], by rw [sAll_zero]; exact h2⟩)
    clear h2
    go_wp2_with fail
    go_loopw [4, 29] (fun v i wr => AInv w0 lp n X R cks fin wait v i wr) (fun _ i _ => n - (intOf i).toNat)
    case atStart => exact HI.out
    case round =>
      clear HI y0 y1 y2
      obtain ⟨j, hj, rfl, rfl, h⟩ := hrel
      by_cases hlt : j < n
      · have hlt' : (j : Int) < (n : Int) := by omega
        obtain ⟨b, o, rfl, hbw, hcells⟩ := H0.out.2.2.2 (by omega)
        obtain ⟨k, hk⟩ : ∃ k, cks[j]? = some k := ⟨cks[j]'(by have := H0.out.1; omega), List.getElem?_eq_getElem _⟩
        obtain ⟨hkb, hkm⟩ := H0.out.2.2.1 k (List.mem_of_getElem? hk)
        obtain ⟨y0, y1⟩ := hcells j k hk
        rw [← h.old.cell (p := ⟨b, o + j * 2, none⟩) hbw] at y0
        rw [← h.old.cell (p := ⟨b, o + j * 2 + 1, none⟩) hbw] at y1
        have hbd := whenN_bd cks j
        have hnx := sAll_next (fin := fin) (wait := wait) hk (by omega)
        have hws := whenN_succ hk
        obtain ⟨kw, kA, km, kd, kbs⟩ := k
        simp only at hkb hkm y0 y1 hnx hws
        obtain ⟨t, ht⟩ : ∃ t, t = tk kw := ⟨_, rfl⟩
        have htb := tk_bd kw
        have hways := tk_ways kw
        rw [← ht] at htb hways hws
        obtain ⟨W, hW⟩ : ∃ W, W = whenN cks j := ⟨_, rfl⟩
        rw [← hW] at hbd hws ⊢
        have h1 := h.below ((Below.refl wr.heap.size wr).alloc (Nat.le_refl _) (.cells #[.int .i64 kw, .slice kA km kd] 72))
        have C := h1.next (by rw [show (sAll cks fin wait j).last = W from hW.symm]; exact hbd.1) (by rw [show (sAll cks fin wait j).last = W from hW.symm]; omega) 1125899906842624
        rw [hnx] at C
        have C := Lib.hid C
        have HOB := Lib.hid (Blk.new wr 72 #[.int .i64 kw, .slice kA km kd])
        have HKB := Lib.hid hkb
        have HWS2 := Lib.hid hws
        have hXo : ¬ X wr.heap.size := fun hx => by have := (h.inn _ (.inl hx)).1; omega
        clear hcells hk hkb hnx hws ht hW h h1
        go_wp2_with fail
        ((with_reducible refine C.out.mono ?_))
        rintro e V ⟨B, m, d, rfl, hb, h3, hk3, -⟩
        have hml : kbs.length = m := hb.1
        have hkl : kbs.length = km := HKB.out.1
        obtain rfl : m = km := hml.symm.trans hkl
        have ob3 : Blk V wr.heap.size 72 _ := (hk3.block _ HOB.out.lt hXo).trans HOB.out
        obtain ⟨z0, z1, -, -⟩ := blk2 ob3
        obtain ⟨x0, x1, x2, -, -, -⟩ := blk3 (HSB.out _ h3.old)
        obtain ⟨R1, hR1⟩ : ∃ R1, R1 = n - j - 1 := ⟨_, rfl⟩
        have hrl : (sAll cks fin wait (j + 1)).ds.length = R1 := by
          show (plainD (cks.drop (j + 1))).length = R1
          unfold plainD
          rw [List.length_map, List.length_drop, H0.out.1]; omega
        have CS := Lib.hid (fun (q : Nat) => sameb_q (w := V.drewN q) (c := d) (d := kd) (show BytesAt (V.drewN q) B m kbs from hb) (show BytesAt (V.drewN q) kA m kbs from HKB.out.up (fun b hb => h3.old.block b hb) h3.old.size) (by unfold maxLen; omega))
        have CN := fun (q : Nat) => (h3.below (below_drewN _ V q)).now_
        have CR := fun (q : Nat) => (h3.below (below_drewN _ V q)).rest
        rw [show (sAll cks fin wait (j + 1)).now = W + t from HWS2.out] at CN
        rw [hrl] at CR
        have CN := Lib.hid CN
        have CR := Lib.hid CR
        have g1 : IntKind.i64.wrap ((n : Int) - (j : Int)) = (n : Int) - (j : Int) := IntWalk.i64_in _ (by omega)
        have g2 : IntKind.i64.wrap ((n : Int) - (j : Int) - 1) = (R1 : Int) := by rw [IntWalk.i64_in _ (by omega)]; omega
        have HA := Lib.hid (fun (q : Nat) => show AInv w0 lp n X R cks fin wait (.int .i64 (W + t)) (.int .i64 ((j : Int) + 1)) (V.drewN q) from ⟨j + 1, by omega, by rw [show ((j : Int) + 1) = ((j + 1 : Nat) : Int) by omega], by rw [HWS2.out], h3.below (below_drewN _ V q)⟩)
        clear hb h3 hk3 ob3 hml hkl hR1 hrl C
        rcases hways with ⟨h4, h5⟩ | ⟨h4, h5, h6⟩ | ⟨h4, h5, h6⟩
        · subst h5
          rw [Int.add_zero] at CN HA
          go_wp2_with fail
          go_quiet ((first | (go_at_call 23; exact Calls.quiet_of (CS.out _)) | (go_at_call 38; exact Calls.quiet_of_same (CN.out _)) | (go_at_call 39; exact Calls.quiet_of_same (CR.out _))))
          go_wp2_with fail
          go_roundw
          case rel => exact HA.out _
          case measure => simp [intOf]; omega
        · subst h6
          go_wp2_with fail
          go_quiet ((first | (go_at_call 23; exact Calls.quiet_of (CS.out _)) | (go_at_call 38; exact Calls.quiet_of_same (CN.out _)) | (go_at_call 39; exact Calls.quiet_of_same (CR.out _))))
          go_wp2_with fail
          go_roundw
          case rel => exact HA.out _
          case measure => simp [intOf]; omega
        · subst h6
          go_wp2_with fail
          go_quiet ((first | (go_at_call 23; exact Calls.quiet_of (CS.out _)) | (go_at_call 38; exact Calls.quiet_of_same (CN.out _)) | (go_at_call 39; exact Calls.quiet_of_same (CR.out _))))
          go_wp2_with fail
          go_roundw
          case rel => exact HA.out _
          case measure => simp [intOf]; omega
      · have hlt' : ¬ (j : Int) < (n : Int) := by omega
        obtain rfl : n = j := by omega
        have hcl := H0.out.1
        have hbd := whenN_bd cks n
        have hnx := sAll_end (fin := fin) (wait := wait) hcl (by omega)
        have hl : (sAll cks fin wait n).last = whenN cks n := rfl
        obtain ⟨t, ht⟩ : ∃ t, t = tk wait := ⟨_, rfl⟩
        have htb := tk_bd wait
        have hways := tk_ways wait
        rw [← ht] at htb hways hnx
        have C := h.next (by rw [hl]; omega) (by rw [hl]; omega) 2251799813685248
        rw [hnx] at C
        obtain ⟨x0, x1, x2, -, -, -⟩ := blk3 (HSB.out _ h.old)
        have HCL := Lib.hid hcl
        have HT := Lib.hid ht
        have hX : ¬ X w.heap.size := fun hx => by have := (h.inn _ (.inl hx)).2; have := HWS.out; omega
        by_cases h1 : fin = 1 ∨ fin = 2
        · rw [if_pos h1] at C
          have C := Lib.hid C
          have C2 := Lib.hid (sAll_again1 (wait := wait) hcl h1)
          rw [← ht] at C2
          obtain ⟨s1, hs1⟩ : ∃ s1 : Ls, s1 = { sAll cks fin wait n with now := whenN cks n + t } := ⟨_, rfl⟩
          have hs1l : s1.last = whenN cks n := by rw [hs1]; rfl
          have hs1n : s1.now = whenN cks n + t := by rw [hs1]
          rw [← hs1] at C C2
          have HSL := Lib.hid hs1l
          have HSN := Lib.hid hs1n
          obtain ⟨W, hW⟩ : ∃ W, W = whenN cks n := ⟨_, rfl⟩
          rw [← hW] at hbd HSL HSN ⊢
          have H := Lib.hid h
          clear h hl hnx ht hcl hs1 hs1l hs1n hW
          go_wp2_with fail
          ((with_reducible refine C.out.mono ?_))
          rintro e V ⟨B, m, d, rfl, -, h3, hk3, -⟩
          have C3 := Lib.hid h3.now_
          rw [HSN.out] at C3
          have C4 := h3.next (by rw [HSL.out]; omega) (by rw [HSL.out]; omega) 0
          rw [C2.out] at C4
          have C4 := Lib.hid C4
          clear h3 hk3 H x0 x1 x2 C
          go_wp2_with fail
          ((with_reducible refine C3.out.mono ?_))
          rintro e V2 ⟨rfl, rfl⟩
          go_wp2_with fail
          ((with_reducible refine C4.out.mono ?_))
          rintro e V3 ⟨B3, m3, d3, rfl, -, h5, -, -⟩
          obtain ⟨x0, x1, x2, -, -, -⟩ := blk3 (HSB.out _ h5.old)
          have CN := fun (q : Nat) => (h5.below (below_drewN _ V3 q)).now_
          rw [HSN.out] at CN
          have CN := Lib.hid CN
          have HB := Lib.hid (fun (q : Nat) => show Below w.heap.size w (V3.drewN q) from (B0.out.trans (h5.old.mono B0.out.size)).trans (below_drewN _ V3 q))
          clear h5 C3 C4
          rcases h1 with rfl | rfl
          · rcases hways with ⟨h4, h5⟩ | ⟨h4, h5, h6⟩ | ⟨h4, h5, h6⟩
            · subst h5
              rw [Int.add_zero] at CN
              go_wp2_with fail
              go_quiet ((go_at_call 38; exact Calls.quiet_of_same (CN.out _)))
              go_wp2_with fail
              go_ret
              exact ⟨rfl, HB.out _⟩
            · subst h6
              go_wp2_with fail
              go_quiet ((go_at_call 38; exact Calls.quiet_of_same (CN.out _)))
              go_wp2_with fail
              go_ret
              exact ⟨rfl, HB.out _⟩
            · subst h6
              go_wp2_with fail
              go_quiet ((go_at_call 38; exact Calls.quiet_of_same (CN.out _)))
              go_wp2_with fail
              go_ret
              exact ⟨rfl, HB.out _⟩
          · have CN0 := Lib.hid (CN.out 0)
            have HB0 := Lib.hid (HB.out 0)
            go_wp2_with fail
            refine (show Calls _ _ _ V3 _ from CN0.out).mono ?_
            rintro e V4 ⟨rfl, rfl⟩
            go_wp2
            go_ret
            exact ⟨rfl, HB0.out⟩
        · rw [if_neg h1] at C
          have C := Lib.hid C
          have C2 := Lib.hid (sAll_again2 (wait := wait) hcl h1)
          obtain ⟨s1, hs1⟩ : ∃ s1 : Ls, s1 = { sAll cks fin wait n with now := 2251799813685248 } := ⟨_, rfl⟩
          have hs1l : s1.last = whenN cks n := by rw [hs1]; rfl
          have hs1n : s1.now = 2251799813685248 := by rw [hs1]
          rw [← hs1] at C C2
          have HSL := Lib.hid hs1l
          have HSN := Lib.hid hs1n
          obtain ⟨W, hW⟩ : ∃ W, W = whenN cks n := ⟨_, rfl⟩
          rw [← hW] at hbd HSL ⊢
          have hf1 : (fin == 1) = false := by rw [beq_eq_false_iff_ne]; omega
          have hf2 : (fin == 2) = false := by rw [beq_eq_false_iff_ne]; omega
          have H := Lib.hid h
          clear h hl hnx ht hcl hs1 hs1l hs1n hW h1
          go_wp2_with fail
          ((with_reducible refine C.out.mono ?_))
          rintro e V ⟨B, m, d, rfl, -, h3, hk3, -⟩
          have C3 := Lib.hid h3.now_
          rw [HSN.out] at C3
          have C4 := h3.next (by rw [HSL.out]; omega) (by rw [HSL.out]; omega) 0
          rw [C2.out] at C4
          have C4 := Lib.hid C4
          clear h3 hk3 H x0 x1 x2 C
          go_wp2_with fail
          ((with_reducible refine C3.out.mono ?_))
          rintro e V2 ⟨rfl, rfl⟩
          go_wp2_with fail
          ((with_reducible refine C4.out.mono ?_))
          rintro e V3 ⟨B3, m3, d3, rfl, -, h5, -, -⟩
          obtain ⟨x0, x1, x2, -, -, -⟩ := blk3 (HSB.out _ h5.old)
          have HB := Lib.hid (B0.out.trans (h5.old.mono B0.out.size))
          clear h5 C3 C4
          go_wp2
          go_ret
          exact ⟨rfl, HB.out⟩
end Go.Proofs.Ytmcapiikplflkaa
