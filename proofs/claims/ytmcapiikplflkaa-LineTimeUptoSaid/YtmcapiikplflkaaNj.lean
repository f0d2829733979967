/- LineTime answers true. -/
import Derived.Test.YtmcapiikplflkaaNi
import Derived.Test.YtmcapiikplflkaaLi
namespace Go.Proofs.Ytmcapiikplflkaa
open Go.RowKit Go.Maps

/-- A session on its way: what came of it, and what is to come. -/
structure Way (s : Ls) (M : Int) (B N0 k : Nat) (ds0 : Cks) (xs : List UInt8) : Prop where
  due : Due s
  small : SmallB B s
  now : s.now ≤ M
  last : 0 ≤ s.last ∧ s.last ≤ 1000000 * (k : Int)
  len : s.ds.length ≤ N0
  got : ∀ L, M ≤ L → xs ++ (drain L s.ds s.last).1 = (drain L ds0 0).1 ∧ (drain L s.ds s.last).2 = (drain L ds0 0).2
theorem Way.step {s : Ls} {M n : Int} {B N0 k : Nat} {ds0 : Cks} {xs : List UInt8} (h : Way s M B N0 k ds0 xs) : Way (nextS s n).2.2 (max M n) B N0 (k + 1) ds0 (xs ++ (nextS s n).2.1) ∧ s.now ≤ (nextS s n).2.2.now ∧ (nextS s n).2.2.now ≤ max n s.now ∧ ((nextS s n).1 = 4 → (nextS s n).2.2.now = max n s.now) ∧ (nextS s n).2.1.length ≤ B := by
  have hm : max n s.now ≤ max M n := by have := h.now; omega
  have p := pace s n (max M n) B h.due h.small hm
  have hl := nextS_last s n h.last.1
  refine ⟨⟨p.due, p.small, by have := p.now1; omega, ⟨hl.1, by have := h.last.2; omega⟩, Nat.le_trans p.len h.len, fun L hL => ?_⟩, p.now0, p.now1, p.late, p.bytes⟩
  have q := pace s n L B h.due h.small (by omega)
  have g := h.got L (by omega)
  exact ⟨by rw [List.append_assoc, q.got]; exact g.1, by rw [q.left]; exact g.2⟩
/-- A Next by the greatest limit: a chunk more, or all has come. -/
theorem Way.more {s : Ls} {M : Int} {B N0 k i : Nat} {ds0 : Cks} {xs : List UInt8} (h : Way s M B N0 k ds0 xs) (hi : s.ds.length + i ≤ N0) :
    ((nextS s M).1 = 1 ∧ Way (nextS s M).2.2 M B N0 (k + 1) ds0 (xs ++ (nextS s M).2.1) ∧ (nextS s M).2.2.ds.length + (i + 1) ≤ N0 ∧ (nextS s M).2.1.length ≤ B) ∨ ((nextS s M).1 ≠ 1 ∧ xs = (drain M ds0 0).1 ∧ (nextS s M).2.2.ds = (drain M ds0 0).2) := by
  have hm : max M s.now = M := by have := h.now; omega
  have st := h.step (n := M)
  have p := pace s M M B h.due h.small (by omega)
  by_cases h1 : (nextS s M).1 = 1
  · left
    have st1 := st.1
    rw [show max M M = M by omega] at st1
    exact ⟨h1, st1, by have := p.one h1; omega, st.2.2.2.2⟩
  · right
    obtain ⟨e1, e2, e3, e4⟩ := p.none_ h1
    have g := h.got M (Int.le_refl _)
    have e5 := e4 (by omega)
    rw [e5] at g
    refine ⟨h1, by simpa using g.1, by rw [e2]; exact g.2⟩
/-- No chunk is left. -/
theorem Way.all {s : Ls} {M : Int} {B N0 k i : Nat} {ds0 : Cks} {xs : List UInt8} (h : Way s M B N0 k ds0 xs) (hi : s.ds.length + i ≤ N0) (hn : N0 ≤ i) : xs = (drain M ds0 0).1 ∧ s.ds = (drain M ds0 0).2 := by
  have hd : s.ds = [] := List.eq_nil_of_length_eq_zero (by omega)
  have g := h.got M (Int.le_refl _)
  rw [hd, show drain M [] s.last = ([], []) from rfl] at g
  exact ⟨by simpa using g.1, by rw [hd]; exact g.2⟩
def T1 (w0 : World) (pa pb m N0 B : Nat) (R Y Q : Nat → Prop) (s0 : Ls) (v mo i : Value) (V : World) : Prop := ∃ (j K : Nat) (xs : List UInt8) (s : Ls) (M : Int) (A : Option Addr) (c : Nat) (X : Nat → Prop), 0 ≤ M ∧ j ≤ m ∧ K ≤ B * min j 100 ∧ i = .int .i64 (j : Nat) ∧ v = .slice A K c ∧ mo = .int .i64 M ∧ Way s M B N0 (min j 100) s0.ds xs ∧ s.sent = [] ∧ RowAt V A K c xs ∧ FarL w0 A X R Y Q ∧ TwoL w0 V pa pb X R Y Q s s0
def T2 (w0 : World) (pa pb N0 B : Nat) (R Y Q : Nat → Prop) (s0 : Ls) (M : Int) (v i : Value) (V : World) : Prop := ∃ (j K : Nat) (xs : List UInt8) (s : Ls) (A : Option Addr) (c : Nat) (X : Nat → Prop), j ≤ 200 ∧ K ≤ B * (100 + j) ∧ i = .int .i64 (j : Nat) ∧ v = .slice A K c ∧ Way s M B N0 (100 + j) s0.ds xs ∧ s.ds.length + j ≤ N0 ∧ RowAt V A K c xs ∧ FarL w0 A X R Y Q ∧ TwoL w0 V pa pb X R Y Q s s0
def T3 (w0 : World) (pa pb N0 B : Nat) (X R Q : Nat → Prop) (s : Ls) (ds0 : Cks) (M : Int) (A1 : Option Addr) (K1 c1 : Nat) (xs : List UInt8) (v i : Value) (V : World) : Prop := ∃ (j K : Nat) (ys : List UInt8) (t : Ls) (A : Option Addr) (c : Nat) (Y : Nat → Prop), j ≤ 300 ∧ K ≤ B * j ∧ i = .int .i64 (j : Nat) ∧ v = .slice A K c ∧ Way t M B N0 j ds0 ys ∧ t.ds.length + j ≤ N0 ∧ RowAt V A K c ys ∧ FarL w0 A X R Y Q ∧ RowAt V A1 K1 c1 xs ∧ FarL w0 A1 X R Y Q ∧ (∀ j, InB A j → ¬ InB A1 j) ∧ TwoL w0 V pa pb X R Y Q s t
theorem max_ways (a b : Int) : (a < b ∧ max a b = b) ∨ (¬ a < b ∧ max a b = a) := by omega
set_option maxHeartbeats 16000000 in
set_option maxRecDepth 100000 in
theorem lineTime_walk (A B : Option Addr) (n c m d : Nat) (cks : List Ck) (zs : List Int) (fin wait : Int) (w : World) (h : ArgCh w A n cks) (hB : ∀ k ∈ cks, k.m ≤ 1048576) (hz : IntsAt w B m zs) (hm : m ≤ maxLen) :
    Calls Try.prog 7 #[.agg #[.slice A n c, .int .i64 fin, .int .i64 wait], .slice B m d] w fun e w' => e = .returned (.bool true) ∧ Below w.heap.size w w' := by
  have mixed : Try.prog.follows .mixedOrders = true := by kernel_rfl
  unfold maxLen at hm
  obtain ⟨w0, hw0⟩ : ∃ w0, w0 = w.alloc (.cells #[.slice A n c, .int .i64 fin, .int .i64 wait] 68) := ⟨_, rfl⟩
  have b0 : Below w.heap.size w w0 := hw0 ▸ (Below.refl _ w).alloc (Nat.le_refl _) _
  have h0 := h.below b0
  have hs0 : Blk w0 w.heap.size 68 #[.slice A n c, .int .i64 fin, .int .i64 wait] := hw0 ▸ Blk.new w _ _
  obtain ⟨s0, hs⟩ : ∃ s0 : Ls, s0 = ⟨plainD cks, fin, wait, 0, 0, []⟩ := ⟨_, rfl⟩
  have hsl : s0.ds.length = n := by rw [hs]; show (plainD cks).length = n; unfold plainD; rw [List.length_map]; exact h.1
  have hway : Way s0 0 1048576 n 0 s0.ds [] := by
    refine ⟨?_, fun x hx => ?_, by rw [hs]; exact Int.le_refl _, by rw [hs]; exact ⟨Int.le_refl _, by simp⟩, by rw [hsl]; exact Nat.le_refl _, fun L _ => ?_⟩
    · rw [hs]
      unfold Due
      cases hp : plainD cks with
      | nil => intro _; have := tk_bd wait; show (0 : Int) ≤ 0 + tk wait; omega
      | cons a r => have := tk_bd a.1; show (0 : Int) ≤ 0 + tk a.1; omega
    · rw [hs] at hx
      obtain ⟨k, hk, rfl⟩ := List.mem_map.1 hx
      show k.bs.length ≤ _
      rw [(h.2.2.1 k hk).1.1]; exact hB k hk
    · rw [List.nil_append]
      rw [show s0.last = 0 by rw [hs]]
      exact ⟨rfl, rfl⟩
  have HZ := Lib.hid hz
  have HWAY := Lib.hid hway
  have HSE := Lib.hid (show s0.sent = [] by rw [hs])
  have HSL := Lib.hid hsl
  -- Open at whatever world that has grown
  have OP := Lib.hid (fun (V : World) (hb : Below w0.heap.size w0 V) => show Calls Try.prog 35 #[.agg #[.slice A n c, .int .i64 fin, .int .i64 wait]] V (OpenP V s0) from hs ▸ open_any (c := c) fin wait (h0.below hb))
  have SB := Lib.hid (fun (V : World) (hb : Below w0.heap.size w0 V) => hs0.below hb hs0.lt)
  have B0 := Lib.hid b0
  have HW0 := Lib.hid hw0
  have hn63 : n * 32 ≤ 140737488355328 := h.2.1
  clear h h0 hs0 b0 hw0 hz hB hs hway hsl
  go_enter Try.func7, Try.ntmps7
  go_wp2_with fail
  rw [← HW0.out]
  have t0 := SB.out w0 (Below.refl _ _)
  refine wp_region_held_drew (S := fun W => W.cell? ⟨w.heap.size, 0, none⟩ = some (.slice A n c) ∧ W.cell? ⟨w.heap.size, 1, none⟩ = some (.int .i64 fin) ∧ W.cell? ⟨w.heap.size, 2, none⟩ = some (.int .i64 wait)) mixed ⟨t0.cell 0, t0.cell 1, t0.cell 2⟩ (fun hS => ?_)
  refine wpAnyH_take (i := 0) (v := .agg #[.slice A n c, .int .i64 fin, .int .i64 wait]) rfl (by kernel_rfl) (by kernel_rfl) (by kernel_rfl) (fun _ _ _ h => h) (Or.inl ⟨by rfl, fun W hW => by obtain ⟨h0, h1, h2⟩ := hW; go_simp⟩) hS ?_
  refine wpAnyH_take (i := 2) (v := .agg #[.slice A n c, .int .i64 fin, .int .i64 wait]) rfl (by kernel_rfl) (by kernel_rfl) (by kernel_rfl) (fun _ _ _ h => h) (Or.inl ⟨by rfl, fun W hW => by obtain ⟨h0, h1, h2⟩ := hW; go_simp⟩) hS ?_
  refine wpAnyH_ready (rs := [1]) (by kernel_rfl) (by simp) ?_
  refine AllReadyH.cons rfl (fun K hK => ?_) AllReadyH.nil
  have C1 := Lib.hid (OP.out w0.drew ((Below.refl _ w0).drew))
  go_simp
  refine C1.out.mono ?_
  rintro e V1 ⟨pa, X, R, rfl, h1⟩
  have b1 : Below w0.heap.size w0 V1 := ((Below.refl _ w0).drew).trans h1.old
  have t1 := SB.out V1 b1
  refine hK.out _ _ ⟨t1.cell 0, t1.cell 1, t1.cell 2⟩ (fun hS => ?_)
  clear hK K
  have C2 := Lib.hid (OP.out V1 b1)
  have H1 := Lib.hid (show LS w0 V1 pa X R _ from ⟨h1.at_, h1.inn, h1.dis, b1⟩)
  clear C1 h1 b1 t1
  refine wpAnyH_ready (rs := [3]) (by kernel_rfl) (by simp) ?_
  refine AllReadyH.cons rfl (fun K hK => ?_) AllReadyH.nil
  go_simp
  refine C2.out.mono ?_
  rintro e V2 ⟨pb, Y, Q, rfl, h2⟩
  have t2 := SB.out V2 (H1.out.old.trans (h2.old.mono H1.out.old.size))
  refine hK.out _ _ ⟨t2.cell 0, t2.cell 1, t2.cell 2⟩ (fun hS => ?_)
  clear hK K t2
  have hT := two_open H1.out h2
  clear C2 H1 h2
  refine wpAnyH_ready (rs := [4]) (by kernel_rfl) (by simp) ?_
  refine AllReadyH.cons rfl (fun K hK => ?_) AllReadyH.nil
  go_simp
  refine hK.out _ _ hS (fun hS => ?_)
  clear hK K
  refine wpAnyH_ready (rs := [5]) (by kernel_rfl) (by simp) ?_
  refine AllReadyH.cons rfl (fun K hK => ?_) AllReadyH.nil
  go_simp
  refine hK.out _ _ hS (fun hS => ?_)
  clear hK K
  refine wpAnyH_done (by kernel_rfl) ?_ _
  clear hS t0
  go_wp2_with fail
  refine (lalive_any _).mono ?_
  rintro e V3 ⟨rfl, b3⟩
  have h3 := hT.below b3
  clear hT b3
  have HI := Lib.hid (show T1 w0 pa pb m n 1048576 R Y Q s0 (.slice (some ⟨V3.heap.size, 0, none⟩) 0 0) (.int .i64 0) (.int .i64 0) (V3.alloc (.cells #[] 5)) from
    ⟨0, 0, [], s0, 0, _, 0, X, Int.le_refl _, Nat.zero_le _, Nat.zero_le _, rfl, rfl, rfl, HWAY.out, HSE.out, row_empty V3, farL_new h3 (fun j hj => by obtain ⟨o, e⟩ := hj; injection e with e; injection e with e _ _; omega), h3.below ((Below.refl _ V3).alloc (Nat.le_refl _) _)⟩)
  clear h3
  go_wp2_with fail
  go_loopw [7, 8, 38] (fun v mo i wr => T1 w0 pa pb m n 1048576 R Y Q s0 v mo i wr) (fun _ _ i _ => m - (intOf i).toNat)
  case atStart => exact HI.out
  case round =>
    clear HI
    obtain ⟨j, K, xs, s, M, A1, c1, X, hM0, hj, hK, rfl, rfl, rfl, hw, hse, hr, hf, h⟩ := hrel
    by_cases hgo : j < m ∧ j < 100
    · obtain ⟨hlt, h100⟩ := hgo
      have hlt' : (j : Int) < (m : Int) := by omega
      have h100' : ¬ (100 : Int) ≤ (j : Int) := by omega
      obtain ⟨b, o, rfl, hb, hc⟩ := HZ.out.2 (by omega)
      obtain ⟨z, hzj⟩ : ∃ z, zs[j]? = some z := ⟨zs[j]'(by have := HZ.out.1; omega), List.getElem?_eq_getElem _⟩
      have y0 := hc j z hzj
      rw [← (B0.out.trans (h.a.old.mono B0.out.size)).cell (p := ⟨b, o + j, none⟩) hb] at y0
      clear hc hzj
      obtain ⟨hw2, n0, n1, n4, nb⟩ := hw.step (n := z)
      have CN := Lib.hid (show Calls _ _ _ _ (fun e w' => e = .returned (.int .i64 s.now) ∧ w' = wr) from h.a.now_)
      have C := h.a.next hw.last.1 (by have := hw.last.2; omega) z
      obtain ⟨kk, zz, s2, hnx⟩ : ∃ kk zz s2, nextS s z = (kk, zz, s2) := ⟨_, _, _, rfl⟩
      have hns := nextS_same s z
      rw [hnx] at C hw2 n0 n1 n4 nb hns
      simp only at hw2 n0 n1 n4 nb hns
      obtain ⟨now1, hnow1⟩ : ∃ now1, now1 = s.now := ⟨_, rfl⟩
      obtain ⟨now2, hnow2⟩ : ∃ now2, now2 = s2.now := ⟨_, rfl⟩
      have hwn := hw.now
      have hwm := hw2.now
      rw [← hnow1] at CN n0 n1 n4 hwn
      rw [← hnow2] at n0 n1 n4 hwm
      have C := Lib.hid C
      have HH := Lib.hid h
      have HR := Lib.hid hr
      have HF := Lib.hid hf
      have HW2 := Lib.hid hw2
      have HSE2 := Lib.hid (hns.trans hse)
      have HN2 := Lib.hid hnow2
      have N4 := Lib.hid n4
      clear h hr hf hw hw2 hnx hns hse hnow1 hnow2 n4
      obtain ⟨M2, hM2⟩ : ∃ M2, M2 = max M z := ⟨_, rfl⟩
      rw [← hM2] at hwm HW2
      have HM2 := Lib.hid hM2
      have hM20 : 0 ≤ M2 := by omega
      have mw : (M < z ∧ M2 = z) ∨ (¬ M < z ∧ M2 = M) := by omega
      clear hM2
      have hk4 : (kk = 4 ∧ ((now1 < z ∧ now2 = z) ∨ (¬ now1 < z ∧ now2 = now1))) ∨ kk ≠ 4 := by
        by_cases e : kk = 4
        · left
          have := N4.out e
          exact ⟨e, by omega⟩
        · exact .inr e
      have f1 : ¬ now2 < now1 := by omega
      have f1b : decide (now2 < now1) = false := decide_eq_false f1
      rcases mw with ⟨g1, g1e⟩ | ⟨g1, g1e⟩
      · have f2 : ¬ z < now2 := by omega
        have f2b : decide (z < now2) = false := decide_eq_false f2
        clear g1e
        rcases hk4 with ⟨rfl, ⟨g2, g2e⟩ | ⟨g2, g2e⟩⟩ | g2
        · have e1 : (now2 == z) = true := by rw [beq_iff_eq]; omega
          have e2 : (now2 != z) = false := by rw [bne, e1]; rfl
          clear g2e
          go_wp2_with fail
          ((with_reducible refine CN.out.mono ?_))
          rintro e V4 ⟨rfl, rfl⟩
          go_wp2_with fail
          ((with_reducible refine C.out.mono ?_))
          rintro e V5 ⟨B5, m5, d5, rfl, hb5, h5, k5, -⟩
          have hm5 : zz.length = m5 := hb5.1
          have h6 := HH.out.turnA h5 k5
          have r6 := HR.out.kept k5 (fun i hi hx => (HF.out i hi).1 (.inl hx))
          obtain ⟨A7, c7, V7, hrun, r7, f7, h7, -⟩ := h6.push (d := d5) 30 r6 HF.out hb5 (by omega)
          have HRUN := Lib.hid hrun
          have HT := Lib.hid (fun (v : Int) (hv : v = M2) => show T1 w0 pa pb m n 1048576 R Y Q s0 (.slice A7 (K + m5) c7) (.int .i64 v) (.int .i64 ((j : Int) + 1)) V7 from
            ⟨j + 1, K + m5, xs ++ zz, s2, M2, A7, c7, X, hM20, by omega, by omega, by rw [show ((j : Int) + 1) = ((j + 1 : Nat) : Int) by omega], rfl, by rw [hv], by rw [show min (j + 1) 100 = min j 100 + 1 by omega]; exact HW2.out, HSE2.out, r7, f7, h7⟩)
          have CA := Lib.hid (show Calls _ _ _ _ (fun e w' => e = .returned (.int .i64 now2) ∧ w' = V7) from HN2.out ▸ h7.a.now_)
          clear hb5 h5 k5 hm5 h6 r6 hrun r7 f7 h7 C CN HH HR HF
          go_wp2_with (at_builtin; refine wpList_append_run rfl (.tmp 56) (.tmp 57) 30 rfl _ _ _ rfl rfl HRUN.out ?_)
          ((with_reducible refine CA.out.mono ?_))
          rintro e V8 ⟨rfl, rfl⟩
          go_wp2_with fail
          ((with_reducible refine CA.out.mono ?_))
          rintro e V8 ⟨rfl, rfl⟩
          go_wp2_with fail
          ((with_reducible refine CA.out.mono ?_))
          rintro e V8 ⟨rfl, rfl⟩
          go_wp2_with fail
          go_roundw
          case rel => exact HT.out _ (by have := HM2.out; omega)
          case measure => simp [intOf]; omega
        · exfalso; omega
        · have g2b : (kk == 4) = false := by rw [beq_eq_false_iff_ne]; exact g2
          go_wp2_with fail
          ((with_reducible refine CN.out.mono ?_))
          rintro e V4 ⟨rfl, rfl⟩
          go_wp2_with fail
          ((with_reducible refine C.out.mono ?_))
          rintro e V5 ⟨B5, m5, d5, rfl, hb5, h5, k5, -⟩
          have hm5 : zz.length = m5 := hb5.1
          have h6 := HH.out.turnA h5 k5
          have r6 := HR.out.kept k5 (fun i hi hx => (HF.out i hi).1 (.inl hx))
          obtain ⟨A7, c7, V7, hrun, r7, f7, h7, -⟩ := h6.push (d := d5) 30 r6 HF.out hb5 (by omega)
          have HRUN := Lib.hid hrun
          have HT := Lib.hid (fun (v : Int) (hv : v = M2) => show T1 w0 pa pb m n 1048576 R Y Q s0 (.slice A7 (K + m5) c7) (.int .i64 v) (.int .i64 ((j : Int) + 1)) V7 from
            ⟨j + 1, K + m5, xs ++ zz, s2, M2, A7, c7, X, hM20, by omega, by omega, by rw [show ((j : Int) + 1) = ((j + 1 : Nat) : Int) by omega], rfl, by rw [hv], by rw [show min (j + 1) 100 = min j 100 + 1 by omega]; exact HW2.out, HSE2.out, r7, f7, h7⟩)
          have CA := Lib.hid (show Calls _ _ _ _ (fun e w' => e = .returned (.int .i64 now2) ∧ w' = V7) from HN2.out ▸ h7.a.now_)
          clear hb5 h5 k5 hm5 h6 r6 hrun r7 f7 h7 C CN HH HR HF
          go_wp2_with (at_builtin; refine wpList_append_run rfl (.tmp 56) (.tmp 57) 30 rfl _ _ _ rfl rfl HRUN.out ?_)
          ((with_reducible refine CA.out.mono ?_))
          rintro e V8 ⟨rfl, rfl⟩
          go_wp2_with fail
          ((with_reducible refine CA.out.mono ?_))
          rintro e V8 ⟨rfl, rfl⟩
          go_wp2_with fail
          go_roundw
          case rel => exact HT.out _ (by have := HM2.out; omega)
          case measure => simp [intOf]; omega
      · have f2 : ¬ M < now2 := by omega
        have f2b : decide (M < now2) = false := decide_eq_false f2
        clear g1e
        rcases hk4 with ⟨rfl, ⟨g2, g2e⟩ | ⟨g2, g2e⟩⟩ | g2
        · have e1 : (now2 == z) = true := by rw [beq_iff_eq]; omega
          have e2 : (now2 != z) = false := by rw [bne, e1]; rfl
          clear g2e
          go_wp2_with fail
          ((with_reducible refine CN.out.mono ?_))
          rintro e V4 ⟨rfl, rfl⟩
          go_wp2_with fail
          ((with_reducible refine C.out.mono ?_))
          rintro e V5 ⟨B5, m5, d5, rfl, hb5, h5, k5, -⟩
          have hm5 : zz.length = m5 := hb5.1
          have h6 := HH.out.turnA h5 k5
          have r6 := HR.out.kept k5 (fun i hi hx => (HF.out i hi).1 (.inl hx))
          obtain ⟨A7, c7, V7, hrun, r7, f7, h7, -⟩ := h6.push (d := d5) 30 r6 HF.out hb5 (by omega)
          have HRUN := Lib.hid hrun
          have HT := Lib.hid (fun (v : Int) (hv : v = M2) => show T1 w0 pa pb m n 1048576 R Y Q s0 (.slice A7 (K + m5) c7) (.int .i64 v) (.int .i64 ((j : Int) + 1)) V7 from
            ⟨j + 1, K + m5, xs ++ zz, s2, M2, A7, c7, X, hM20, by omega, by omega, by rw [show ((j : Int) + 1) = ((j + 1 : Nat) : Int) by omega], rfl, by rw [hv], by rw [show min (j + 1) 100 = min j 100 + 1 by omega]; exact HW2.out, HSE2.out, r7, f7, h7⟩)
          have CA := Lib.hid (show Calls _ _ _ _ (fun e w' => e = .returned (.int .i64 now2) ∧ w' = V7) from HN2.out ▸ h7.a.now_)
          clear hb5 h5 k5 hm5 h6 r6 hrun r7 f7 h7 C CN HH HR HF
          go_wp2_with (at_builtin; refine wpList_append_run rfl (.tmp 56) (.tmp 57) 30 rfl _ _ _ rfl rfl HRUN.out ?_)
          ((with_reducible refine CA.out.mono ?_))
          rintro e V8 ⟨rfl, rfl⟩
          go_wp2_with fail
          ((with_reducible refine CA.out.mono ?_))
          rintro e V8 ⟨rfl, rfl⟩
          go_wp2_with fail
          ((with_reducible refine CA.out.mono ?_))
          rintro e V8 ⟨rfl, rfl⟩
          go_wp2_with fail
          go_roundw
          case rel => exact HT.out _ (by have := HM2.out; omega)
          case measure => simp [intOf]; omega
        · have e1 : (now2 == now1) = true := by rw [beq_iff_eq]; omega
          have e2 : (now2 != now1) = false := by rw [bne, e1]; rfl
          clear g2e
          go_wp2_with fail
          ((with_reducible refine CN.out.mono ?_))
          rintro e V4 ⟨rfl, rfl⟩
          go_wp2_with fail
          ((with_reducible refine C.out.mono ?_))
          rintro e V5 ⟨B5, m5, d5, rfl, hb5, h5, k5, -⟩
          have hm5 : zz.length = m5 := hb5.1
          have h6 := HH.out.turnA h5 k5
          have r6 := HR.out.kept k5 (fun i hi hx => (HF.out i hi).1 (.inl hx))
          obtain ⟨A7, c7, V7, hrun, r7, f7, h7, -⟩ := h6.push (d := d5) 30 r6 HF.out hb5 (by omega)
          have HRUN := Lib.hid hrun
          have HT := Lib.hid (fun (v : Int) (hv : v = M2) => show T1 w0 pa pb m n 1048576 R Y Q s0 (.slice A7 (K + m5) c7) (.int .i64 v) (.int .i64 ((j : Int) + 1)) V7 from
            ⟨j + 1, K + m5, xs ++ zz, s2, M2, A7, c7, X, hM20, by omega, by omega, by rw [show ((j : Int) + 1) = ((j + 1 : Nat) : Int) by omega], rfl, by rw [hv], by rw [show min (j + 1) 100 = min j 100 + 1 by omega]; exact HW2.out, HSE2.out, r7, f7, h7⟩)
          have CA := Lib.hid (show Calls _ _ _ _ (fun e w' => e = .returned (.int .i64 now2) ∧ w' = V7) from HN2.out ▸ h7.a.now_)
          clear hb5 h5 k5 hm5 h6 r6 hrun r7 f7 h7 C CN HH HR HF
          go_wp2_with (at_builtin; refine wpList_append_run rfl (.tmp 56) (.tmp 57) 30 rfl _ _ _ rfl rfl HRUN.out ?_)
          ((with_reducible refine CA.out.mono ?_))
          rintro e V8 ⟨rfl, rfl⟩
          go_wp2_with fail
          ((with_reducible refine CA.out.mono ?_))
          rintro e V8 ⟨rfl, rfl⟩
          go_wp2_with fail
          ((with_reducible refine CA.out.mono ?_))
          rintro e V8 ⟨rfl, rfl⟩
          go_wp2_with fail
          go_roundw
          case rel => exact HT.out _ (by have := HM2.out; omega)
          case measure => simp [intOf]; omega
        · have g2b : (kk == 4) = false := by rw [beq_eq_false_iff_ne]; exact g2
          go_wp2_with fail
          ((with_reducible refine CN.out.mono ?_))
          rintro e V4 ⟨rfl, rfl⟩
          go_wp2_with fail
          ((with_reducible refine C.out.mono ?_))
          rintro e V5 ⟨B5, m5, d5, rfl, hb5, h5, k5, -⟩
          have hm5 : zz.length = m5 := hb5.1
          have h6 := HH.out.turnA h5 k5
          have r6 := HR.out.kept k5 (fun i hi hx => (HF.out i hi).1 (.inl hx))
          obtain ⟨A7, c7, V7, hrun, r7, f7, h7, -⟩ := h6.push (d := d5) 30 r6 HF.out hb5 (by omega)
          have HRUN := Lib.hid hrun
          have HT := Lib.hid (fun (v : Int) (hv : v = M2) => show T1 w0 pa pb m n 1048576 R Y Q s0 (.slice A7 (K + m5) c7) (.int .i64 v) (.int .i64 ((j : Int) + 1)) V7 from
            ⟨j + 1, K + m5, xs ++ zz, s2, M2, A7, c7, X, hM20, by omega, by omega, by rw [show ((j : Int) + 1) = ((j + 1 : Nat) : Int) by omega], rfl, by rw [hv], by rw [show min (j + 1) 100 = min j 100 + 1 by omega]; exact HW2.out, HSE2.out, r7, f7, h7⟩)
          have CA := Lib.hid (show Calls _ _ _ _ (fun e w' => e = .returned (.int .i64 now2) ∧ w' = V7) from HN2.out ▸ h7.a.now_)
          clear hb5 h5 k5 hm5 h6 r6 hrun r7 f7 h7 C CN HH HR HF
          go_wp2_with (at_builtin; refine wpList_append_run rfl (.tmp 56) (.tmp 57) 30 rfl _ _ _ rfl rfl HRUN.out ?_)
          ((with_reducible refine CA.out.mono ?_))
          rintro e V8 ⟨rfl, rfl⟩
          go_wp2_with fail
          ((with_reducible refine CA.out.mono ?_))
          rintro e V8 ⟨rfl, rfl⟩
          go_wp2_with fail
          go_roundw
          case rel => exact HT.out _ (by have := HM2.out; omega)
          case measure => simp [intOf]; omega
    · have hways : ¬ (j : Int) < (m : Int) ∨ (∃ b o z, B = some ⟨b, o, none⟩ ∧ wr.cell? ⟨b, o + j, none⟩ = some (.int .i64 z) ∧ (j : Int) < (m : Int) ∧ (100 : Int) ≤ (j : Int)) := by
        by_cases hl : j < m
        · right
          obtain ⟨b, o, e, hb, hc⟩ := HZ.out.2 (by omega)
          obtain ⟨z, hzj⟩ : ∃ z, zs[j]? = some z := ⟨zs[j]'(by have := HZ.out.1; omega), List.getElem?_eq_getElem _⟩
          refine ⟨b, o, z, e, ?_, by omega, by omega⟩
          rw [(B0.out.trans (h.a.old.mono B0.out.size)).cell (p := ⟨b, o + j, none⟩) hb]; exact hc j z hzj
        · left; omega
      have HI2 := Lib.hid (show T2 w0 pa pb n 1048576 R Y Q s0 M (.slice A1 K c1) (.int .i64 0) wr from
        ⟨0, K, xs, s, A1, c1, X, Nat.zero_le _, by omega, rfl, rfl, ⟨hw.due, hw.small, hw.now, ⟨hw.last.1, by have := hw.last.2; omega⟩, hw.len, hw.got⟩, by have := hw.len; omega, hr, hf, h⟩)
      have HM0 := Lib.hid hM0
      clear hw hse hr hf h hgo
      rcases hways with hx | ⟨b, o, z, rfl, y0, hx, hx2⟩
      all_goals
        go_wp2_with fail
        go_loopw [7, 14] (fun v i wr => T2 w0 pa pb n 1048576 R Y Q s0 M v i wr) (fun _ i _ => 200 - (intOf i).toNat)
        case atStart => exact HI2.out
        case round =>
          clear HI2
          obtain ⟨j, K1, xs, s, A1, c1, X1, hj, hK1, rfl, rfl, hw, hlen, hr, hf, h⟩ := hrel
          have HK1 := Lib.hid (show K1 ≤ 1048576 * 300 by omega)
          by_cases hlt : j < 200
          · have hlt' : (j : Int) < 200 := by omega
            have C := h.a.next hw.last.1 (by have := hw.last.2; omega) M
            have hmo := hw.more hlen
            obtain ⟨kk, zz, t2, hnx⟩ : ∃ kk zz t2, nextS s M = (kk, zz, t2) := ⟨_, _, _, rfl⟩
            rw [hnx] at C hmo
            simp only at hmo
            have C := Lib.hid C
            have HH := Lib.hid h
            have HR := Lib.hid hr
            have HF := Lib.hid hf
            clear h hr hf hnx hw
            rcases hmo with ⟨e1, hw2, hl2, hzb⟩ | ⟨e1, e2, e3⟩
            · subst e1
              have HW2 := Lib.hid hw2
              clear hw2
              go_wp2_with fail
              ((with_reducible refine C.out.mono ?_))
              rintro e V5 ⟨B5, m5, d5, rfl, hb5, h5, k5, -⟩
              have hm5 : zz.length = m5 := hb5.1
              have h6 := HH.out.turnA h5 k5
              have r6 := HR.out.kept k5 (fun i hi hx => (HF.out i hi).1 (.inl hx))
              obtain ⟨A7, c7, V7, hrun, r7, f7, h7, -⟩ := h6.push (d := d5) 30 r6 HF.out hb5 (by omega)
              have HRUN := Lib.hid hrun
              have HT := Lib.hid (show T2 w0 pa pb n 1048576 R Y Q s0 M (.slice A7 (K1 + m5) c7) (.int .i64 ((j : Int) + 1)) V7 from
                ⟨j + 1, K1 + m5, xs ++ zz, t2, A7, c7, X1, by omega, by omega, by rw [show ((j : Int) + 1) = ((j + 1 : Nat) : Int) by omega], rfl, HW2.out, hl2, r7, f7, h7⟩)
              clear hb5 h5 k5 hm5 h6 r6 hrun r7 f7 h7 C HH HR HF
              go_wp2_with (at_builtin; refine wpList_append_run rfl (.tmp 94) (.tmp 95) 30 rfl _ _ _ rfl rfl HRUN.out ?_)
              go_roundw
              case rel => exact HT.out
              case measure => simp [intOf]; omega
            · have g2b : (kk == 1) = false := by rw [beq_eq_false_iff_ne]; exact e1
              have g2c : (kk != 1) = true := by rw [bne, g2b]; rfl
              have HCA0 := Lib.hid (show xs = (drain M s0.ds 0).1 ∧ t2.ds = (drain M s0.ds 0).2 from ⟨e2, e3⟩)
              clear e1 e2 e3
              go_wp2_with fail
              ((with_reducible refine C.out.mono ?_))
              rintro e wz ⟨B5, m5, d5, rfl, hb5, h5, k5, -⟩
              have h6 := HH.out.turnA h5 k5
              have r6 := HR.out.kept k5 (fun i hi hx => (HF.out i hi).1 (.inl hx))
              clear HH HR hb5 h5 k5 C
              obtain ⟨s, ht⟩ : ∃ s, s = t2 := ⟨_, rfl⟩
              subst ht
              have HH1 := Lib.hid h6
              have HR1 := Lib.hid r6
              have HF1 := Lib.hid HF.out
              have HCA := Lib.hid (show ¬ 200 < n → xs = (drain M s0.ds 0).1 ∧ s.ds = (drain M s0.ds 0).2 from fun _ => HCA0.out)
              clear h6 r6 HF HCA0
              have HI3 := Lib.hid (fun (h3 : TwoL w0 wz pa pb X1 R Y Q s s0) (r3 : RowAt wz A1 K1 c1 xs) (f3 : FarL w0 A1 X1 R Y Q) => show T3 w0 pa pb n 1048576 X1 R Q s s0.ds M A1 K1 c1 xs (.slice (some ⟨wz.heap.size, 0, none⟩) 0 0) (.int .i64 0) (wz.alloc (.cells #[] 5)) from
                ⟨0, 0, [], s0, _, 0, Y, Nat.zero_le _, Nat.zero_le _, rfl, rfl, ⟨HWAY.out.due, HWAY.out.small, by have := HWAY.out.now; have := HM0.out; omega, HWAY.out.last, HWAY.out.len, fun L hL => HWAY.out.got L (by have := HM0.out; omega)⟩, by have := HWAY.out.len; omega, row_empty wz, farL_new h3 (fun j hj => by obtain ⟨o, e⟩ := hj; injection e with e; injection e with e _ _; omega), r3.alloc _, f3, (fun j hj hx => by
                  obtain ⟨o, e⟩ := hj
                  injection e with e; injection e with e _ _
                  have := r3.lt hx; omega), h3.below ((Below.refl _ wz).alloc (Nat.le_refl _) _)⟩)
              have HI3 := Lib.hid (HI3.out HH1.out HR1.out HF1.out)
              clear HH1 HR1 HF1
              go_wp2_with fail
              go_loopw [17, 18] (fun v i wr => T3 w0 pa pb n 1048576 X1 R Q s s0.ds M A1 K1 c1 xs v i wr) (fun _ i _ => 300 - (intOf i).toNat)
              case atStart => exact HI3.out
              case round =>
                clear HI3
                obtain ⟨j, K2, ys, t, A2, c2, Y2, hj, hK2, rfl, rfl, hw, hlen, hr2, hf2, hr1, hf1, hap, h⟩ := hrel
                have hK1b := HK1.out
                by_cases hlt : j < 300
                · have hlt' : (j : Int) < 300 := by omega
                  have C := h.b.next hw.last.1 (by have := hw.last.2; omega) M
                  have hmo := hw.more hlen
                  obtain ⟨kk, zz, t2, hnx⟩ : ∃ kk zz t2, nextS t M = (kk, zz, t2) := ⟨_, _, _, rfl⟩
                  rw [hnx] at C hmo
                  simp only at hmo
                  have C := Lib.hid C
                  have HH := Lib.hid h
                  have HR2 := Lib.hid hr2
                  have HF2 := Lib.hid hf2
                  have HR1 := Lib.hid hr1
                  have HF1 := Lib.hid hf1
                  have HAP := Lib.hid hap
                  clear h hr2 hf2 hr1 hf1 hnx hw hap
                  rcases hmo with ⟨e1, hw2, hl2, hzb⟩ | ⟨e1, e2, e3⟩
                  · subst e1
                    have HW2 := Lib.hid hw2
                    clear hw2
                    go_wp2_with fail
                    ((with_reducible refine C.out.mono ?_))
                    rintro e V5 ⟨B5, m5, d5, rfl, hb5, h5, k5, -⟩
                    have hm5 : zz.length = m5 := hb5.1
                    have h6 := HH.out.turnB h5 k5
                    have r6 := HR2.out.kept k5 (fun i hi hx => (HF2.out i hi).2.1 (.inl hx))
                    have q6 := HR1.out.kept k5 (fun i hi hx => (HF1.out i hi).2.1 (.inl hx))
                    obtain ⟨A7, c7, V7, hrun, r7, f7, h7, k7⟩ := h6.push (d := d5) 30 r6 HF2.out hb5 (by omega)
                    obtain ⟨A7', c7', V7', hrun', -, -, hin7⟩ := row_append (d := d5) 30 r6 hb5 (by omega)
                    have q7 := q6.kept k7 (fun i hi hx => HAP.out i hx hi)
                    have hA7 : A7 = A7' := by
                      rw [hrun] at hrun'
                      injection hrun' with hv _
                      injection hv
                    subst hA7
                    have hap7 : ∀ j, InB A7 j → ¬ InB A1 j := fun i hi hx => by
                      rcases hin7 i hi with h8 | h8
                      · exact HAP.out i h8 hx
                      · have := q6.lt hx; omega
                    have HRUN := Lib.hid hrun
                    have HT := Lib.hid (show T3 w0 pa pb n 1048576 X1 R Q s s0.ds M A1 K1 c1 xs (.slice A7 (K2 + m5) c7) (.int .i64 ((j : Int) + 1)) V7 from
                      ⟨j + 1, K2 + m5, ys ++ zz, t2, A7, c7, Y2, by omega, by omega, by rw [show ((j : Int) + 1) = ((j + 1 : Nat) : Int) by omega], rfl, HW2.out, hl2, r7, f7, q7, HF1.out, hap7, h7⟩)
                    clear hb5 h5 k5 hm5 h6 r6 q6 hrun hrun' r7 f7 q7 h7 k7 hin7 hap7 C HH HR2 HF2 HR1 HF1 HAP
                    go_wp2_with (at_builtin; refine wpList_append_run rfl (.tmp 110) (.tmp 111) 30 rfl _ _ _ rfl rfl HRUN.out ?_)
                    go_roundw
                    case rel => exact HT.out
                    case measure => simp [intOf]; omega
                  · have g2b : (kk == 1) = false := by rw [beq_eq_false_iff_ne]; exact e1
                    have g2c : (kk != 1) = true := by rw [bne, g2b]; rfl
                    have HCB0 := Lib.hid (show ys = (drain M s0.ds 0).1 ∧ t2.ds = (drain M s0.ds 0).2 from ⟨e2, e3⟩)
                    clear e1 e2 e3
                    go_wp2_with fail
                    ((with_reducible refine C.out.mono ?_))
                    rintro e V5 ⟨B5, m5, d5, rfl, hb5, h5, k5, -⟩
                    have h6 := HH.out.turnB h5 k5
                    have r6 := HR2.out.kept k5 (fun i hi hx => (HF2.out i hi).2.1 (.inl hx))
                    have q6 := HR1.out.kept k5 (fun i hi hx => (HF1.out i hi).2.1 (.inl hx))
                    clear HH HR2 HR1 HF2 HF1 hb5 h5 k5 C
                    obtain ⟨t, ht⟩ : ∃ t, t = t2 := ⟨_, rfl⟩
                    subst ht
                    have HH := Lib.hid h6
                    have HR2 := Lib.hid r6
                    have HR1 := Lib.hid q6
                    have HCB := Lib.hid (show ¬ 200 < n → ys = (drain M s0.ds 0).1 ∧ t.ds = (drain M s0.ds 0).2 from fun _ => HCB0.out)
                    clear h6 r6 q6 HCB0
                    -- behind the third loop: at hand HCB : 200 < n or ys, t are all; HH : TwoL; rows
                    by_cases h200 : 200 < n
                    · have h200' : (200 : Int) < (n : Int) := by omega
                      have HB := Lib.hid (B0.out.trans (HH.out.a.old.mono B0.out.size))
                      have t9 := SB.out _ HH.out.a.old
                      obtain ⟨t9c, -, -, -, -, -⟩ := blk3 t9
                      clear t9
                      go_wp2_with fail
                      go_ret
                      exact ⟨rfl, HB.out⟩
                    · have h200' : ¬ (200 : Int) < (n : Int) := by omega
                      have h200b : decide ((200 : Int) < (n : Int)) = false := decide_eq_false h200'
                      obtain ⟨ex, ed⟩ := HCA.out h200
                      obtain ⟨ey, et⟩ := HCB.out h200
                      have hxy : ys = xs := ey.trans ex.symm
                      have hdd : t.ds.length = s.ds.length := by rw [et, ed]
                      have hR2 := HR2.out
                      rw [hxy] at hR2
                      have hKK : K1 = K2 := HR1.out.len.symm.trans hR2.len
                      subst hKK
                      have C := Lib.hid (sameb_yes (c := c1) (d := c2) HR1.out.bytes hR2.bytes (by unfold maxLen; omega))
                      have t9 := SB.out _ HH.out.a.old
                      obtain ⟨t9c, -, -, -, -, -⟩ := blk3 t9
                      clear t9 ex ed ey et hxy hR2
                      go_wp2_with fail
                      refine C.out.mono ?_
                      rintro e V9 ⟨rfl, b9⟩
                      have h10 := HH.out.below b9
                      have CA := h10.a.rest
                      have CB := h10.b.rest
                      rw [hdd] at CB
                      have CA := Lib.hid CA
                      have CB := Lib.hid CB
                      have HB := Lib.hid (B0.out.trans (h10.a.old.mono B0.out.size))
                      clear h10 b9 C t9c hdd
                      go_wp2_with fail
                      ((with_reducible refine CA.out.mono ?_))
                      rintro e V10 ⟨rfl, rfl⟩
                      go_wp2_with fail
                      ((with_reducible refine CB.out.mono ?_))
                      rintro e V11 ⟨rfl, rfl⟩
                      go_wp2
                      go_ret
                      exact ⟨rfl, HB.out⟩
                · have hlt' : ¬ (j : Int) < 300 := by omega
                  have HCB := Lib.hid (show ¬ 200 < n → ys = (drain M s0.ds 0).1 ∧ t.ds = (drain M s0.ds 0).2 from fun h2 => hw.all hlen (by omega))
                  have HH := Lib.hid h
                  have HR2 := Lib.hid hr2
                  have HR1 := Lib.hid hr1
                  clear h hr2 hr1 hf1 hf2 hw hap
                  -- behind the third loop: at hand HCB : 200 < n or ys, t are all; HH : TwoL; rows
                  by_cases h200 : 200 < n
                  · have h200' : (200 : Int) < (n : Int) := by omega
                    have HB := Lib.hid (B0.out.trans (HH.out.a.old.mono B0.out.size))
                    have t9 := SB.out _ HH.out.a.old
                    obtain ⟨t9c, -, -, -, -, -⟩ := blk3 t9
                    clear t9
                    go_wp2_with fail
                    go_ret
                    exact ⟨rfl, HB.out⟩
                  · exfalso; omega
          · have hlt' : ¬ (j : Int) < 200 := by omega
            have HCA := Lib.hid (show ¬ 200 < n → xs = (drain M s0.ds 0).1 ∧ s.ds = (drain M s0.ds 0).2 from fun h2 => hw.all hlen (by omega))
            obtain ⟨wz, hwz⟩ : ∃ wz, wz = wr := ⟨_, rfl⟩
            subst hwz
            have HH1 := Lib.hid h
            have HR1 := Lib.hid hr
            have HF1 := Lib.hid hf
            clear h hr hf hw
            have HI3 := Lib.hid (fun (h3 : TwoL w0 wz pa pb X1 R Y Q s s0) (r3 : RowAt wz A1 K1 c1 xs) (f3 : FarL w0 A1 X1 R Y Q) => show T3 w0 pa pb n 1048576 X1 R Q s s0.ds M A1 K1 c1 xs (.slice (some ⟨wz.heap.size, 0, none⟩) 0 0) (.int .i64 0) (wz.alloc (.cells #[] 5)) from
              ⟨0, 0, [], s0, _, 0, Y, Nat.zero_le _, Nat.zero_le _, rfl, rfl, ⟨HWAY.out.due, HWAY.out.small, by have := HWAY.out.now; have := HM0.out; omega, HWAY.out.last, HWAY.out.len, fun L hL => HWAY.out.got L (by have := HM0.out; omega)⟩, by have := HWAY.out.len; omega, row_empty wz, farL_new h3 (fun j hj => by obtain ⟨o, e⟩ := hj; injection e with e; injection e with e _ _; omega), r3.alloc _, f3, (fun j hj hx => by
                obtain ⟨o, e⟩ := hj
                injection e with e; injection e with e _ _
                have := r3.lt hx; omega), h3.below ((Below.refl _ wz).alloc (Nat.le_refl _) _)⟩)
            have HI3 := Lib.hid (HI3.out HH1.out HR1.out HF1.out)
            clear HH1 HR1 HF1
            go_wp2_with fail
            go_loopw [17, 18] (fun v i wr => T3 w0 pa pb n 1048576 X1 R Q s s0.ds M A1 K1 c1 xs v i wr) (fun _ i _ => 300 - (intOf i).toNat)
            case atStart => exact HI3.out
            case round =>
              clear HI3
              obtain ⟨j, K2, ys, t, A2, c2, Y2, hj, hK2, rfl, rfl, hw, hlen, hr2, hf2, hr1, hf1, hap, h⟩ := hrel
              have hK1b := HK1.out
              by_cases hlt : j < 300
              · have hlt' : (j : Int) < 300 := by omega
                have C := h.b.next hw.last.1 (by have := hw.last.2; omega) M
                have hmo := hw.more hlen
                obtain ⟨kk, zz, t2, hnx⟩ : ∃ kk zz t2, nextS t M = (kk, zz, t2) := ⟨_, _, _, rfl⟩
                rw [hnx] at C hmo
                simp only at hmo
                have C := Lib.hid C
                have HH := Lib.hid h
                have HR2 := Lib.hid hr2
                have HF2 := Lib.hid hf2
                have HR1 := Lib.hid hr1
                have HF1 := Lib.hid hf1
                have HAP := Lib.hid hap
                clear h hr2 hf2 hr1 hf1 hnx hw hap
                rcases hmo with ⟨e1, hw2, hl2, hzb⟩ | ⟨e1, e2, e3⟩
                · subst e1
                  have HW2 := Lib.hid hw2
                  clear hw2
                  go_wp2_with fail
                  ((with_reducible refine C.out.mono ?_))
                  rintro e V5 ⟨B5, m5, d5, rfl, hb5, h5, k5, -⟩
                  have hm5 : zz.length = m5 := hb5.1
                  have h6 := HH.out.turnB h5 k5
                  have r6 := HR2.out.kept k5 (fun i hi hx => (HF2.out i hi).2.1 (.inl hx))
                  have q6 := HR1.out.kept k5 (fun i hi hx => (HF1.out i hi).2.1 (.inl hx))
                  obtain ⟨A7, c7, V7, hrun, r7, f7, h7, k7⟩ := h6.push (d := d5) 30 r6 HF2.out hb5 (by omega)
                  obtain ⟨A7', c7', V7', hrun', -, -, hin7⟩ := row_append (d := d5) 30 r6 hb5 (by omega)
                  have q7 := q6.kept k7 (fun i hi hx => HAP.out i hx hi)
                  have hA7 : A7 = A7' := by
                    rw [hrun] at hrun'
                    injection hrun' with hv _
                    injection hv
                  subst hA7
                  have hap7 : ∀ j, InB A7 j → ¬ InB A1 j := fun i hi hx => by
                    rcases hin7 i hi with h8 | h8
                    · exact HAP.out i h8 hx
                    · have := q6.lt hx; omega
                  have HRUN := Lib.hid hrun
                  have HT := Lib.hid (show T3 w0 pa pb n 1048576 X1 R Q s s0.ds M A1 K1 c1 xs (.slice A7 (K2 + m5) c7) (.int .i64 ((j : Int) + 1)) V7 from
                    ⟨j + 1, K2 + m5, ys ++ zz, t2, A7, c7, Y2, by omega, by omega, by rw [show ((j : Int) + 1) = ((j + 1 : Nat) : Int) by omega], rfl, HW2.out, hl2, r7, f7, q7, HF1.out, hap7, h7⟩)
                  clear hb5 h5 k5 hm5 h6 r6 q6 hrun hrun' r7 f7 q7 h7 k7 hin7 hap7 C HH HR2 HF2 HR1 HF1 HAP
                  go_wp2_with (at_builtin; refine wpList_append_run rfl (.tmp 110) (.tmp 111) 30 rfl _ _ _ rfl rfl HRUN.out ?_)
                  go_roundw
                  case rel => exact HT.out
                  case measure => simp [intOf]; omega
                · have g2b : (kk == 1) = false := by rw [beq_eq_false_iff_ne]; exact e1
                  have g2c : (kk != 1) = true := by rw [bne, g2b]; rfl
                  have HCB0 := Lib.hid (show ys = (drain M s0.ds 0).1 ∧ t2.ds = (drain M s0.ds 0).2 from ⟨e2, e3⟩)
                  clear e1 e2 e3
                  go_wp2_with fail
                  ((with_reducible refine C.out.mono ?_))
                  rintro e V5 ⟨B5, m5, d5, rfl, hb5, h5, k5, -⟩
                  have h6 := HH.out.turnB h5 k5
                  have r6 := HR2.out.kept k5 (fun i hi hx => (HF2.out i hi).2.1 (.inl hx))
                  have q6 := HR1.out.kept k5 (fun i hi hx => (HF1.out i hi).2.1 (.inl hx))
                  clear HH HR2 HR1 HF2 HF1 hb5 h5 k5 C
                  obtain ⟨t, ht⟩ : ∃ t, t = t2 := ⟨_, rfl⟩
                  subst ht
                  have HH := Lib.hid h6
                  have HR2 := Lib.hid r6
                  have HR1 := Lib.hid q6
                  have HCB := Lib.hid (show ¬ 200 < n → ys = (drain M s0.ds 0).1 ∧ t.ds = (drain M s0.ds 0).2 from fun _ => HCB0.out)
                  clear h6 r6 q6 HCB0
                  -- behind the third loop: at hand HCB : 200 < n or ys, t are all; HH : TwoL; rows
                  by_cases h200 : 200 < n
                  · have h200' : (200 : Int) < (n : Int) := by omega
                    have HB := Lib.hid (B0.out.trans (HH.out.a.old.mono B0.out.size))
                    have t9 := SB.out _ HH.out.a.old
                    obtain ⟨t9c, -, -, -, -, -⟩ := blk3 t9
                    clear t9
                    go_wp2_with fail
                    go_ret
                    exact ⟨rfl, HB.out⟩
                  · have h200' : ¬ (200 : Int) < (n : Int) := by omega
                    have h200b : decide ((200 : Int) < (n : Int)) = false := decide_eq_false h200'
                    obtain ⟨ex, ed⟩ := HCA.out h200
                    obtain ⟨ey, et⟩ := HCB.out h200
                    have hxy : ys = xs := ey.trans ex.symm
                    have hdd : t.ds.length = s.ds.length := by rw [et, ed]
                    have hR2 := HR2.out
                    rw [hxy] at hR2
                    have hKK : K1 = K2 := HR1.out.len.symm.trans hR2.len
                    subst hKK
                    have C := Lib.hid (sameb_yes (c := c1) (d := c2) HR1.out.bytes hR2.bytes (by unfold maxLen; omega))
                    have t9 := SB.out _ HH.out.a.old
                    obtain ⟨t9c, -, -, -, -, -⟩ := blk3 t9
                    clear t9 ex ed ey et hxy hR2
                    go_wp2_with fail
                    refine C.out.mono ?_
                    rintro e V9 ⟨rfl, b9⟩
                    have h10 := HH.out.below b9
                    have CA := h10.a.rest
                    have CB := h10.b.rest
                    rw [hdd] at CB
                    have CA := Lib.hid CA
                    have CB := Lib.hid CB
                    have HB := Lib.hid (B0.out.trans (h10.a.old.mono B0.out.size))
                    clear h10 b9 C t9c hdd
                    go_wp2_with fail
                    ((with_reducible refine CA.out.mono ?_))
                    rintro e V10 ⟨rfl, rfl⟩
                    go_wp2_with fail
                    ((with_reducible refine CB.out.mono ?_))
                    rintro e V11 ⟨rfl, rfl⟩
                    go_wp2
                    go_ret
                    exact ⟨rfl, HB.out⟩
              · have hlt' : ¬ (j : Int) < 300 := by omega
                have HCB := Lib.hid (show ¬ 200 < n → ys = (drain M s0.ds 0).1 ∧ t.ds = (drain M s0.ds 0).2 from fun h2 => hw.all hlen (by omega))
                have HH := Lib.hid h
                have HR2 := Lib.hid hr2
                have HR1 := Lib.hid hr1
                clear h hr2 hr1 hf1 hf2 hw hap
                -- behind the third loop: at hand HCB : 200 < n or ys, t are all; HH : TwoL; rows
                by_cases h200 : 200 < n
                · have h200' : (200 : Int) < (n : Int) := by omega
                  have HB := Lib.hid (B0.out.trans (HH.out.a.old.mono B0.out.size))
                  have t9 := SB.out _ HH.out.a.old
                  obtain ⟨t9c, -, -, -, -, -⟩ := blk3 t9
                  clear t9
                  go_wp2_with fail
                  go_ret
                  exact ⟨rfl, HB.out⟩
                · exfalso; omega
end Go.Proofs.Ytmcapiikplflkaa
