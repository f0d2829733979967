/- Two sessions opened of one stream, in whatever order; LineSends answers true. -/
import Derived.Test.YtmcapiikplflkaaNg
import Derived.Test.YtmcapiikplflkaaLp
namespace Go.Proofs.Ytmcapiikplflkaa
open Go.RowKit Go.Maps

def SInv (w w0 : World) (pa pb n : Nat) (R Q : Nat → Prop) (v i : Value) (V : World) : Prop := ∃ (j K : Nat) (xs : List UInt8) (s : Ls) (A : Option Addr) (c : Nat) (X Y : Nat → Prop), j ≤ n ∧ K ≤ 1000 * min j 50 ∧ i = .int .i64 (j : Nat) ∧ v = .slice A K c ∧ s.sent = [] ∧ Small s ∧ 0 ≤ s.last ∧ s.last ≤ 1000000 * ((min j 50 : Nat) : Int) ∧ RowAt V A K c xs ∧ FarL w0 A X R Y Q ∧ TwoL w0 V pa pb X R Y Q { s with sent := xs } s
set_option maxHeartbeats 8000000 in
set_option maxRecDepth 100000 in
theorem lineSends_walk (A B : Option Addr) (n c m d : Nat) (cks : List Ck) (ps : List (Option Addr × Nat × Nat × List UInt8)) (fin wait : Int) (w : World) (h : ArgCh w A n cks) (hp : PartsAt w B m ps) (hm : m ≤ maxLen) :
    Calls Try.prog 8 #[.agg #[.slice A n c, .int .i64 fin, .int .i64 wait], .slice B m d] w fun e w' => e = .returned (.bool true) ∧ Below w.heap.size w w' := by
  have mixed : Try.prog.follows .mixedOrders = true := by kernel_rfl
  unfold maxLen at hm
  obtain ⟨w0, hw0⟩ : ∃ w0, w0 = w.alloc (.cells #[.slice A n c, .int .i64 fin, .int .i64 wait] 68) := ⟨_, rfl⟩
  have b0 : Below w.heap.size w w0 := hw0 ▸ (Below.refl _ w).alloc (Nat.le_refl _) _
  have h0 := h.below b0
  have hs0 : Blk w0 w.heap.size 68 #[.slice A n c, .int .i64 fin, .int .i64 wait] := hw0 ▸ Blk.new w _ _
  have HP := Lib.hid hp
  -- Open at whatever world that has grown
  have OP := Lib.hid (fun (V : World) (hb : Below w0.heap.size w0 V) => open_any (c := c) fin wait (h0.below hb))
  have SB := Lib.hid (fun (V : World) (hb : Below w0.heap.size w0 V) => hs0.below hb hs0.lt)
  have B0 := Lib.hid b0
  have HW0 := Lib.hid hw0
  have SM := Lib.hid (small_arg h0 fin wait)
  clear h h0 hs0 b0 hw0 hp
  go_enter Try.func8, Try.ntmps8
  go_wp2_with fail
  rw [← HW0.out]
  have t0 := SB.out w0 (Below.refl _ _)
  refine wp_region_held_drew (S := fun W => W.cell? ⟨w.heap.size, 0, none⟩ = some (.slice A n c) ∧ W.cell? ⟨w.heap.size, 1, none⟩ = some (.int .i64 fin) ∧ W.cell? ⟨w.heap.size, 2, none⟩ = some (.int .i64 wait)) mixed ⟨t0.cell 0, t0.cell 1, t0.cell 2⟩ (fun hS => ?_)
  refine wpAnyH_take (i := 0) (v := .agg #[.slice A n c, .int .i64 fin, .int .i64 wait]) rfl (by kernel_rfl) (by kernel_rfl) (by kernel_rfl) (fun _ _ _ h => h) (Or.inl ⟨by rfl, fun W hW => by obtain ⟨h0, h1, h2⟩ := hW; go_simp⟩) hS ?_
  refine wpAnyH_take (i := 2) (v := .agg #[.slice A n c, .int .i64 fin, .int .i64 wait]) rfl (by kernel_rfl) (by kernel_rfl) (by kernel_rfl) (fun _ _ _ h => h) (Or.inl ⟨by rfl, fun W hW => by obtain ⟨h0, h1, h2⟩ := hW; go_simp⟩) hS ?_
  refine wpAnyH_ready (rs := [1]) (by kernel_rfl) (by simp) ?_
  refine AllReadyH.cons rfl (fun K hK => ?_) AllReadyH.nil
  have C1 := Lib.hid (OP.out w0.drew ((Below.refl _ w0).drew))
  go_simp
  refine C1.out.mono ?_
  rintro e V1 ⟨pa, X, R, rfl, h1⟩
  have b1 : Below w0.heap.size w0 V1 := ((Below.refl _ w0).drew).trans h1.old
  have t1 := SB.out V1 b1
  refine hK.out _ _ ⟨t1.cell 0, t1.cell 1, t1.cell 2⟩ (fun hS => ?_)
  clear hK K
  have C2 := Lib.hid (OP.out V1 b1)
  have H1 := Lib.hid (show LS w0 V1 pa X R _ from ⟨h1.at_, h1.inn, h1.dis, b1⟩)
  clear C1 h1 b1 t1
  refine wpAnyH_ready (rs := [3]) (by kernel_rfl) (by simp) ?_
  refine AllReadyH.cons rfl (fun K hK => ?_) AllReadyH.nil
  go_simp
  refine C2.out.mono ?_
  rintro e V2 ⟨pb, Y, Q, rfl, h2⟩
  have t2 := SB.out V2 (H1.out.old.trans (h2.old.mono H1.out.old.size))
  refine hK.out _ _ ⟨t2.cell 0, t2.cell 1, t2.cell 2⟩ (fun hS => ?_)
  clear hK K t2
  have hT := two_open H1.out h2
  clear C2 H1 h2
  refine wpAnyH_ready (rs := [4]) (by kernel_rfl) (by simp) ?_
  refine AllReadyH.cons rfl (fun K hK => ?_) AllReadyH.nil
  go_simp
  refine hK.out _ _ hS (fun hS => ?_)
  clear hK K
  refine wpAnyH_ready (rs := [5]) (by kernel_rfl) (by simp) ?_
  refine AllReadyH.cons rfl (fun K hK => ?_) AllReadyH.nil
  go_simp
  refine hK.out _ _ hS (fun hS => ?_)
  clear hK K
  refine wpAnyH_done (by kernel_rfl) ?_ _
  clear hS
  go_wp2_with fail
  refine (lalive_any _).mono ?_
  rintro e V3 ⟨rfl, b3⟩
  have h3 := hT.below b3
  clear hT b3
  have HI := Lib.hid (show SInv w w0 pa pb m R Q (.slice (some ⟨V3.heap.size, 0, none⟩) 0 0) (.int .i64 0) (V3.alloc (.cells #[] 5)) from
    ⟨0, 0, [], ⟨plainD cks, fin, wait, 0, 0, []⟩, _, 0, X, Y, Nat.zero_le _, Nat.zero_le _, rfl, rfl, rfl, SM.out, Int.le_refl _, by simp, row_empty V3, farL_new h3 (fun j hj => by obtain ⟨o, e⟩ := hj; injection e with e; injection e with e _ _; omega), h3.below ((Below.refl _ V3).alloc (Nat.le_refl _) _)⟩)
  clear h3
  go_wp2_with fail
  go_loopw [7, 31] (fun v i wr => SInv w w0 pa pb m R Q v i wr) (fun _ i _ => m - (intOf i).toNat)
  case atStart => exact HI.out
  case round =>
    clear HI
    obtain ⟨j, K, xs, s, A1, c1, X, Y, hj, hK, rfl, rfl, hse, hsm, hl0, hl1, hr, hf, h⟩ := hrel
    by_cases hgo : j < m ∧ j < 50 ∧ ∃ p, ps[j]? = some p ∧ p.2.1 ≤ 1000
    · obtain ⟨hlt, h50, p, hpj, hp1⟩ := hgo
      have hlt' : (j : Int) < (m : Int) := by omega
      have h50' : ¬ (50 : Int) ≤ (j : Int) := by omega
      obtain ⟨b, o, rfl, hb, hc⟩ := HP.out.2.2 (by omega)
      obtain ⟨hpB, hpm⟩ := HP.out.2.1 p (List.mem_of_getElem? hpj)
      have y0 := hc j p hpj
      rw [← (B0.out.trans (h.a.old.mono B0.out.size)).cell (p := ⟨b, o + j, none⟩) hb] at y0
      clear hc hpj
      obtain ⟨pA, pn, pc, bs⟩ := p
      simp only at hpB hpm hp1 y0
      have h1000 : ¬ (1000 : Int) < (pn : Int) := by omega
      have hbl := hpB.1
      have hsl : xs.length = K := hr.len
      have hbV := hpB.up (fun b hb => (B0.out.trans (h.a.old.mono B0.out.size)).block b hb) (B0.out.trans (h.a.old.mono B0.out.size)).size
      have C := Lib.hid (show Calls _ _ _ _ (fun e w' => e = .returned (.tuple #[]) ∧ AftL w0 wr pa X R { s with sent := xs ++ bs } w') from h.a.send (d := pc) hbV (by show xs.length + pn ≤ _; omega))
      have HH := Lib.hid h
      have HR := Lib.hid hr
      have HF := Lib.hid hf
      have HPB := Lib.hid hpB
      have HBL := Lib.hid hbl
      have HSE := Lib.hid hse
      clear h hr hf hpB hbl hsl hbV hse
      go_wp2_with fail
      refine C.out.mono ?_
      rintro e V4 ⟨rfl, ha⟩
      obtain ⟨X4, h4, k4, s4⟩ := HH.out.left ha
      have r4 := HR.out.kept k4 (fun i hi hx => (HF.out i hi).1 (.inl hx))
      have f4 : FarL w0 A1 X4 R Y Q := fun i hi => ⟨fun hx => by
        rcases hx with hx | hx
        · rcases s4 i hx with h6 | h6
          · exact (HF.out i hi).1 (.inl h6)
          · have := HR.out.lt hi; omega
        · exact (HF.out i hi).1 (.inr hx), (HF.out i hi).2⟩
      have b4 := B0.out.trans (h4.a.old.mono B0.out.size)
      obtain ⟨A5, c5, V5, hrun, r5, f5, h5, k5⟩ := h4.push (d := pc) 30 r4 f4 (HPB.out.up (fun b hb => b4.block b hb) b4.size) (by omega)
      have HRUN := Lib.hid hrun
      have hlx : 0 ≤ ({ s with sent := xs ++ bs } : Ls).last ∧ ({ s with sent := xs ++ bs } : Ls).last ≤ 4611686018427387904 := ⟨hl0, by show s.last ≤ _; omega⟩
      have C5 := h5.a.next hlx.1 hlx.2 (j : Int)
      rw [nextS_sent] at C5
      have hnl := nextS_last s (j : Int) hl0
      have hns := nextS_same s (j : Int)
      have hnm := nextS_small s (j : Int) hsm
      obtain ⟨kk, zz, s2, hnx⟩ : ∃ kk zz s2, nextS s (j : Int) = (kk, zz, s2) := ⟨_, _, _, rfl⟩
      rw [hnx] at C5 hnl hns hnm
      simp only at hnl hns hnm
      have C5 := Lib.hid C5
      have H5 := Lib.hid h5
      have HR5 := Lib.hid r5
      have HF5 := Lib.hid f5
      have HNX := Lib.hid hnx
      have HNS := Lib.hid hns
      have HNM := Lib.hid hnm
      clear ha h4 k4 s4 r4 f4 b4 hrun r5 f5 h5 k5 hlx hnx hns hnm C HH HR HF
      go_wp2_with (at_builtin; refine wpList_append_run rfl (.tmp 46) (.tmp 47) 30 rfl _ _ _ rfl rfl HRUN.out ?_)
      ((with_reducible refine C5.out.mono ?_))
      rintro e V6 ⟨B6, m6, d6, rfl, hb6, h6, k6, hR6⟩
      have h7 := H5.out.turnA h6 k6
      have r7 := HR5.out.kept k6 (fun i hi hx => (HF5.out i hi).1 (.inl hx))
      have C7 := h7.b.next hl0 (by omega) (j : Int)
      rw [HNX.out] at C7
      have C7 := Lib.hid C7
      have H7 := Lib.hid h7
      have HR7 := Lib.hid r7
      have HB6 := Lib.hid hb6
      have HR6 := Lib.hid hR6
      clear hb6 h6 k6 hR6 h7 r7 C5 H5 HR5 HRUN
      go_wp2_with fail
      ((with_reducible refine C7.out.mono ?_))
      rintro e V7 ⟨B7, m7, d7, rfl, hb7, h8, k8, -⟩
      have h9 := H7.out.turnB h8 k8
      have r9 := HR7.out.kept k8 (fun i hi hx => (HF5.out i hi).2.1 (.inl hx))
      have hb6 := HB6.out.kept k8 (fun b o e hx => H7.out.dis b (.inr (HR6.out b ⟨o, e⟩)) (.inl hx))
      have hz6 : zz.length = m6 := hb6.1
      have hz7 : zz.length = m7 := hb7.1
      obtain rfl : m6 = m7 := hz6.symm.trans hz7
      have C8 := Lib.hid (sameb_yes (c := d6) (d := d7) hb6 hb7 (by have := HNM.out.1; unfold maxLen; omega))
      have H9 := Lib.hid h9
      have HR9 := Lib.hid r9
      clear hb6 hb7 h8 k8 h9 r9 hz6 hz7 C7 H7 HR7 HB6 HR6
      go_wp2_with fail
      ((with_reducible refine C8.out.mono ?_))
      rintro e V8 ⟨rfl, b8⟩
      have h10 := H9.out.below b8
      have r10 := HR9.out.below b8
      have CA := Lib.hid (show Calls _ _ _ _ (fun e w' => e = .returned (.int .i64 s2.now) ∧ w' = V8) from h10.a.now_)
      have CB := Lib.hid h10.b.now_
      have HS9 := Lib.hid (show SInv w w0 pa pb m R Q (.slice A5 (K + pn) c5) (.int .i64 ((j : Int) + 1)) V8 from
        ⟨j + 1, K + pn, xs ++ bs, s2, A5, c5, X4, Y, by omega, by omega, by rw [show ((j : Int) + 1) = ((j + 1 : Nat) : Int) by omega], rfl, by rw [HNS.out]; exact HSE.out, HNM.out.2, hnl.1, by omega, r10, HF5.out, h10⟩)
      clear b8 h10 r10 H9 HR9 C8
      go_wp2_with fail
      ((with_reducible refine CA.out.mono ?_))
      rintro e V9 ⟨rfl, rfl⟩
      go_wp2_with fail
      ((with_reducible refine CB.out.mono ?_))
      rintro e V10 ⟨rfl, rfl⟩
      go_wp2_with fail
      go_roundw
      case rel => exact HS9.out
      case measure => simp [intOf]; omega
    · have hsl : xs.length = K := hr.len
      have CA := h.a.sent_ (by show xs.length ≤ _; omega)
      rw [show (Ls.mk s.ds s.fin s.wait s.last s.now xs).sent.length = K from hsl] at CA
      have CA := Lib.hid (show Calls _ _ _ _ (CloneP wr K xs) from CA)
      have HH := Lib.hid h
      have HR := Lib.hid hr
      have HSE := Lib.hid hse
      have hcell : j < m → ∃ b o p, B = some ⟨b, o, none⟩ ∧ ps[j]? = some p ∧ wr.cell? ⟨b, o + j, none⟩ = some (.slice p.1 p.2.1 p.2.2.1) ∧ p.2.1 ≤ maxLen := fun hl => by
        obtain ⟨b, o, e, hb, hc⟩ := HP.out.2.2 (by omega)
        obtain ⟨p, hpj⟩ : ∃ p, ps[j]? = some p := ⟨ps[j]'(by have := HP.out.1; omega), List.getElem?_eq_getElem _⟩
        refine ⟨b, o, p, e, hpj, ?_, (HP.out.2.1 p (List.mem_of_getElem? hpj)).2⟩
        rw [(B0.out.trans (h.a.old.mono B0.out.size)).cell (p := ⟨b, o + j, none⟩) hb]; exact hc j p hpj
      have hways : ¬ (j : Int) < (m : Int) ∨ (∃ b o p1 p2 p3, B = some ⟨b, o, none⟩ ∧ wr.cell? ⟨b, o + j, none⟩ = some (.slice p1 p2 p3) ∧ (j : Int) < (m : Int) ∧ ((50 : Int) ≤ (j : Int) ∨ (¬ (50 : Int) ≤ (j : Int) ∧ (1000 : Int) < (p2 : Int)))) := by
        by_cases hl : j < m
        · right
          obtain ⟨b, o, p, e, hpj, hc, hpm⟩ := hcell hl
          refine ⟨b, o, p.1, p.2.1, p.2.2.1, e, hc, by omega, ?_⟩
          by_cases h5 : 50 ≤ j
          · left; omega
          · right
            refine ⟨by omega, ?_⟩
            by_cases h6 : p.2.1 ≤ 1000
            · exact absurd ⟨hl, by omega, p, hpj, h6⟩ hgo
            · omega
        · left; omega
      clear h hr hse hsl hcell hgo
      rcases hways with hx | ⟨b, o, p1, p2, p3, rfl, y0, hx, hx2 | ⟨hx2, hx3⟩⟩
      all_goals
        go_wp2_with fail
        ((with_reducible refine CA.out.mono ?_))
        rintro e V8 ⟨A8, c8, rfl, r8, n8, b8⟩
        have h9 := HH.out.below b8
        have C9 := Lib.hid (sameb_yes (c := c8) (d := c1) r8.bytes (HR.out.below b8).bytes (by unfold maxLen; omega))
        have H9 := Lib.hid h9
        clear r8 n8 b8 h9
        go_wp2_with fail
        ((with_reducible refine C9.out.mono ?_))
        rintro e V9 ⟨rfl, b9⟩
        have h10 := H9.out.below b9
        have CB := h10.b.sent_ (by rw [HSE.out]; simp)
        rw [HSE.out] at CB
        have CB := Lib.hid (show Calls _ _ _ _ (CloneP V9 0 []) from CB)
        have H10 := Lib.hid h10
        clear b9 h10 H9 C9
        go_wp2_with fail
        ((with_reducible refine CB.out.mono ?_))
        rintro e V10 ⟨A10, c10, rfl, -, -, b10⟩
        have HB := Lib.hid (B0.out.trans ((H10.out.below b10).a.old.mono B0.out.size))
        clear b10 H10 CB
        go_wp2
        go_ret
        exact ⟨rfl, HB.out⟩
end Go.Proofs.Ytmcapiikplflkaa
