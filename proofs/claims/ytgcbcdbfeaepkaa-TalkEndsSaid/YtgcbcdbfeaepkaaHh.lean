/- What a law makes: a session, a buffer and clauses; waits of few chunks; the document's example (alive). The document's example of a wait (alive). -/
import Derived.Test.YtgcbcdbfeaepkaaHf
namespace Go.Proofs.Ytgcbcdbfeaepkaa
open Go.RowKit Go.Maps

theorem LS.rebase {w0 V w : World} {lp : Nat} {X R : Nat → Prop} {s : Ls} (h : LS V w lp X R s) (hb : Below w0.heap.size w0 V) : LS w0 w lp X R s :=
  ⟨h.at_, fun j hj => ⟨(h.inn j hj).1, Nat.le_trans hb.size (h.inn j hj).2⟩, h.dis, hb.trans (h.old.mono hb.size)⟩
theorem ts_make {w0 wc w1 V w2 w3 : World} {lp bp : Nat} {X R : Nat → Prop} {A : Option Addr} {n : Nat} {cs : List Cl} {Z : Nat → Nat → Prop} {s : Ls} {most : Nat} {gone : Int} (b0 : Below w0.heap.size w0 wc) (hc : ClsAt w1 A n cs Z) (hz : ∀ j, ZB A Z j → wc.heap.size ≤ j ∧ j < w1.heap.size) (b2 : Below w1.heap.size w1 V) (hl : LS V w2 lp X R s) (b1 : Below wc.heap.size wc w1)
    (hb : BS w0 w3 bp (fun j => j = w2.heap.size) [] most gone) (b3 : Below w2.heap.size w2 w3) : TS w0 w3 lp bp X R (fun j => j = w2.heap.size) A n cs Z s [] most gone := by
  have b0V : Below w0.heap.size w0 V := (b0.trans (b1.mono b0.size)).trans (b2.mono (Nat.le_trans b0.size b1.size))
  have s0 := b0.size; have s1 := b1.size; have s2 := b2.size; have s3 := hl.old.size; have s4 := b3.size
  refine ⟨(hl.rebase b0V).below b3, hb, ((hc.below b2).below (hl.old)).below b3, fun j hj e => ?_, fun j hj hzb => ?_, fun j hj hzb => ?_, fun j hj => ?_⟩
  · have := (hl.inn j hj).1; omega
  · have := (hl.inn j hj).2; have := (hz j hzb).2; omega
  · have := (hz j hzb).2; omega
  · have := hz j hj; omega
theorem waitOk_of (cs : List Cl) {most : Nat} (hm : most ≤ 2000) (u bd : Int) : ∀ (n : Nat) (come : Bool) (gone : Nat) (s : Ls) (bs : List UInt8), s.ds.length < n → (∀ d ∈ s.ds, d.2.length ≤ 1000) → 0 ≤ s.last → s.last + (s.ds.length : Int) * 1000000 ≤ 4611686018427387904 → gone + s.ds.length * 3000 ≤ 100000000000 → bs.length ≤ 2000 → waitOk cs most u bd n come gone s bs
  | 0, _, _, _, _, h, _, _, _, _, _ => by omega
  | n + 1, come, gone, s, bs, h, hd, hl0, hl1, hg, hb => by
    unfold waitOk
    split
    · trivial
    · refine .inr ⟨hl0, by omega, by omega, fun h1 => ?_⟩
      obtain ⟨ds, fin, wait, last, now, sent⟩ := s
      dsimp only at h hd hl0 hl1 hg
      cases ds with
      | nil =>
        unfold nextS at h1
        dsimp only at h1
        split at h1
        · split at h1
          · simp at h1
          · dsimp only at h1; omega
        · simp at h1
      | cons d r =>
        have htk := tk_bd d.1
        unfold nextS at h1 ⊢
        dsimp only at h1 ⊢
        split at h1
        · simp at h1
        · rename_i hlt
          rw [if_neg hlt]
          have hd0 := hd d (List.mem_cons_self ..)
          refine ⟨by show d.2.length ≤ _; omega, waitOk_of cs hm u bd n true _ _ _ ?_ ?_ ?_ ?_ ?_ ?_⟩
          · show r.length < n
            simp at h; omega
          · exact fun x hx => hd x (List.mem_cons_of_mem _ hx)
          · show 0 ≤ last + tk d.1
            omega
          · show last + tk d.1 + (r.length : Int) * 1000000 ≤ _
            simp only [List.length_cons] at hl1; push_cast at hl1; omega
          · show gone + goneBy bs d.2 most + r.length * 3000 ≤ _
            have : goneBy bs d.2 most ≤ 3000 := by unfold goneBy; rw [List.length_append]; omega
            simp only [List.length_cons] at hg; omega
          · show ((bs ++ d.2).drop (goneBy bs d.2 most)).length ≤ 2000
            unfold goneBy; rw [List.length_drop]; omega
def tcs : List Cl := [clOf ⟨1, ⟨#[98]⟩⟩, clOf ⟨4, ⟨#[]⟩⟩]
def t0 : Ls := ⟨[(1, [97]), (2, [98, 99])], 0, 0, 0, 0, []⟩
def t1 : Ls := ⟨[(2, [98, 99])], 0, 0, 1, 2, []⟩
def t2 : Ls := ⟨[], 0, 0, 3, 3, []⟩
theorem tw1 : waitT tcs 10 2 100 3 false 0 t0 [] = (⟨5, 1, [], 0⟩, t1, [97]) := by kernel_rfl
theorem tw2 : waitT tcs 10 9 100 3 false 0 t1 [97] = (⟨1, 0, [98], 0⟩, t2, [99]) := by kernel_rfl
theorem tok1 : waitOk tcs 10 2 100 3 false 0 t0 [] := waitOk_of _ (by decide) _ _ _ _ _ _ _ (by decide) (by decide) (by decide) (by decide) (by decide) (by decide)
theorem tok2 : waitOk tcs 10 9 100 3 false 0 t1 [97] := waitOk_of _ (by decide) _ _ _ _ _ _ _ (by decide) (by decide) (by decide) (by decide) (by decide) (by decide)
end Go.Proofs.Ytgcbcdbfeaepkaa
namespace Go.Proofs.Ytgcbcdbfeaepkaa
open Go.RowKit Go.Maps

/-- A wait's outcome in plain shape. -/
theorem WaitP.open_ {w0 w w' : World} {lp bp : Nat} {X R Y : Nat → Prop} {A : Option Addr} {n : Nat} {cs : List Cl} {Z : Nat → Nat → Prop} {most : Nat} {gone0 : Int} {k cl : Int} {txt : List UInt8} {g : Nat} {s : Ls} {bs : List UInt8} {e : Ending}
    (h : WaitP w0 w lp bp X R Y A n cs Z most gone0 (⟨k, cl, txt, g⟩, s, bs) e w') :
    ∃ Y' D m c, e = .returned (.agg #[.int .i64 k, .int .i64 cl, .slice D m c, .int .i64 (g : Nat)]) ∧ RowAt w' D m c txt ∧ (∀ j, InB D j → w.heap.size ≤ j) ∧ TS w0 w' lp bp X R Y' A n cs Z s bs most (gone0 + (g : Nat)) ∧ (∀ j, Y' j → Y j ∨ w.heap.size ≤ j) ∧ Kept (fun j => X j ∨ Y j ∨ ZB A Z j) w w' := by
  obtain ⟨Y', ⟨D, m, c, h1, h2, h3, _⟩, h4, h5, h6⟩ := h
  exact ⟨Y', D, m, c, h1, h2, h3, h4, h5, h6⟩
set_option maxHeartbeats 4000000 in
set_option maxRecDepth 100000 in
theorem talive_any (w : World) : Calls Try.prog 39 #[] w fun e w' => e = .returned (.bool true) ∧ Below w.heap.size w w' := by
  have hcv := conv_const
  obtain ⟨wc, hwc⟩ : ∃ wc, wc = w.alloc (.cells #[.int .i64 1, .string ⟨#[98]⟩, .bool false, .slice none 0 0, .int .i64 4, .string ⟨#[]⟩, .bool false, .slice none 0 0] 80) := ⟨_, rfl⟩
  have b0 : Below w.heap.size w wc := hwc ▸ (Below.refl _ w).alloc (Nat.le_refl _) _
  have hA : AClsAt wc (some ⟨w.heap.size, 0, none⟩) 2 [⟨1, ⟨#[98]⟩⟩, ⟨4, ⟨#[]⟩⟩] := by
    have hb := Blk.new w 80 #[.int .i64 1, .string ⟨#[98]⟩, .bool false, .slice none 0 0, .int .i64 4, .string ⟨#[]⟩, .bool false, .slice none 0 0]
    rw [← hwc] at hb
    refine ⟨rfl, by decide, fun _ => ⟨w.heap.size, 0, rfl, hb.lt, fun i p hi => ?_⟩⟩
    match i, hi with
    | 0, hi => simp at hi; subst hi; exact ⟨hb.cell 0, hb.cell 1, ⟨_, hb.cell 2⟩, _, _, _, hb.cell 3⟩
    | 1, hi => simp at hi; subst hi; exact ⟨hb.cell 4, hb.cell 5, ⟨_, hb.cell 6⟩, _, _, _, hb.cell 7⟩
    | i + 2, hi => simp at hi
  have C := Lib.hid (compile_any hA (fun p hp => by
    rcases List.mem_cons.1 hp with rfl | hp
    · exact .inl ⟨rfl, by decide⟩
    · rcases List.mem_cons.1 hp with rfl | hp
      · exact .inr (by decide)
      · cases hp) 2)
  have B0 := Lib.hid b0
  rw [hwc] at C
  have HWC := Lib.hid hwc
  clear b0 hA hwc
  go_enter Try.func39, Try.ntmps39
  go_wp2_with fail
  refine C.out.mono ?_
  rintro e w1 ⟨A1, c1, Z, rfl, hcl, hz, b1⟩
  rw [← HWC.out] at hz b1
  have HCL := Lib.hid hcl
  have HZ := Lib.hid hz
  have HB1 := Lib.hid b1
  obtain ⟨V, hV⟩ : ∃ V, V = ((w1.alloc (.cells #[.int .u8 97] 5 (1, 2))).alloc (.cells #[.int .u8 98, .int .u8 99] 5 (2, 3))).alloc (.cells #[.int .i64 1, .slice (some ⟨w1.heap.size, 0, none⟩) 1 1, .int .i64 2, .slice (some ⟨w1.heap.size + 1, 0, none⟩) 2 2] 103) := ⟨_, rfl⟩
  have b2 : Below w1.heap.size w1 V := hV ▸ (((Below.refl _ w1).alloc (Nat.le_refl _) _).alloc (by simp) _).alloc (by simp; omega) _
  have hch : ArgCh V (some ⟨w1.heap.size + 2, 0, none⟩) 2 [⟨1, some ⟨w1.heap.size, 0, none⟩, 1, 1, [97]⟩, ⟨2, some ⟨w1.heap.size + 1, 0, none⟩, 2, 2, [98, 99]⟩] := by
    have hb := Blk.new ((w1.alloc (.cells #[.int .u8 97] 5 (1, 2))).alloc (.cells #[.int .u8 98, .int .u8 99] 5 (2, 3))) 103 #[.int .i64 1, .slice (some ⟨w1.heap.size, 0, none⟩) 1 1, .int .i64 2, .slice (some ⟨w1.heap.size + 1, 0, none⟩) 2 2]
    rw [show ((w1.alloc (.cells #[.int .u8 97] 5 (1, 2))).alloc (.cells #[.int .u8 98, .int .u8 99] 5 (2, 3))).heap.size = w1.heap.size + 2 by simp] at hb
    have x1 := (bytes_new w1 [97] (1, 2)).below ((Below.refl _ _).alloc (Nat.le_refl _) (.cells #[.int .u8 98, .int .u8 99] 5 (2, 3)))
    have x1 := x1.below ((Below.refl _ _).alloc (Nat.le_refl _) (.cells #[.int .i64 1, .slice (some ⟨w1.heap.size, 0, none⟩) 1 1, .int .i64 2, .slice (some ⟨w1.heap.size + 1, 0, none⟩) 2 2] 103))
    have x2 := (bytes_new (w1.alloc (.cells #[.int .u8 97] 5 (1, 2))) [98, 99] (2, 3)).below ((Below.refl _ _).alloc (Nat.le_refl _) (.cells #[.int .i64 1, .slice (some ⟨w1.heap.size, 0, none⟩) 1 1, .int .i64 2, .slice (some ⟨w1.heap.size + 1, 0, none⟩) 2 2] 103))
    rw [show (w1.alloc (.cells #[.int .u8 97] 5 (1, 2))).heap.size = w1.heap.size + 1 by simp] at x2
    rw [hV]
    refine ⟨rfl, by decide, fun k hk => ?_, fun _ => ⟨w1.heap.size + 2, 0, rfl, hb.lt, fun i k hi => ?_⟩⟩
    · rcases List.mem_cons.1 hk with rfl | hk
      · exact ⟨x1, (by decide : 1 ≤ 140737488355328)⟩
      · rcases List.mem_cons.1 hk with rfl | hk
        · exact ⟨x2, (by decide : 2 ≤ 140737488355328)⟩
        · cases hk
    · match i, hi with
      | 0, hi => simp at hi; subst hi; exact ⟨hb.cell 0, hb.cell 1⟩
      | 1, hi => simp at hi; subst hi; exact ⟨hb.cell 2, hb.cell 3⟩
      | i + 2, hi => simp at hi
  have C2 := Lib.hid (show Calls _ _ _ _ (OpenP _ t0) from open_any (c := 2) 0 0 hch)
  have B2 := Lib.hid b2
  have HV := Lib.hid hV
  rw [hV] at C2
  have hcv2 := conv_const (w1.alloc (.cells #[.int .u8 97] 5 (1, 2))) #[.int .u8 98, .int .u8 99] 2 2
  rw [show (w1.alloc (.cells #[.int .u8 97] 5 (1, 2))).heap.size = w1.heap.size + 1 by simp] at hcv2
  clear hcl hz b1 b2 hch C hV
  go_wp2_with fail
  clear hcv2
  refine C2.out.mono ?_
  rintro e w2 ⟨lp, X, R, rfl, hl⟩
  rw [← HV.out] at hl
  have HL := Lib.hid hl
  have b02 : Below w.heap.size w w2 := ((B0.out.trans (HB1.out.mono B0.out.size)).trans (B2.out.mono (Nat.le_trans B0.out.size HB1.out.size))).trans (hl.old.mono (by have := B0.out.size; have := HB1.out.size; have := B2.out.size; omega))
  have C3 := Lib.hid (bs_new (w0 := w) 10 w2 b02)
  clear hl b02 C2
  go_wp2_with fail
  refine C3.out.mono ?_
  rintro e w3 ⟨rfl, hb, b3, -⟩
  have ht := ts_make (gone := 0) (most := 10) B0.out HCL.out HZ.out B2.out HL.out HB1.out hb b3
  have C := wait_any ht c1 2 100 3 tok1 (by decide) (by decide)
  have hw1 : waitT (List.map clOf [⟨1, ⟨#[98]⟩⟩, ⟨4, ⟨#[]⟩⟩]) 10 2 100 3 false 0 t0 [] = (⟨5, 1, [], 0⟩, t1, [97]) := tw1
  rw [hw1] at C
  have C := Lib.hid C
  clear hb b3 ht C3 hw1
  go_wp2_with fail
  refine C.out.mono ?_
  rintro e w4 h4
  obtain ⟨Y4, D4, m4, d4, rfl, r4, f4, t4, y4, k4⟩ := h4.open_
  have B4 := Lib.hid t4.line.old
  have ba4 := (Below.refl w4.heap.size w4).alloc (Nat.le_refl _) (.cells #[.int .i64 5, .int .i64 1, .slice D4 m4 d4, .int .i64 0] 105)
  have T4 := Lib.hid (t4.below ba4)
  have P4 := Lib.hid (Blk.new w4 105 #[.int .i64 5, .int .i64 1, .slice D4 m4 d4, .int .i64 0])
  have NEW4 := Lib.hid (fun j hj => t4.new (Nat.le_refl w4.heap.size) j hj)
  have N4 := Lib.hid (show Calls _ _ _ _ (fun e w' => e = .returned (.int .i64 2) ∧ w' = _) from T4.out.line.now_)
  clear h4 r4 f4 t4 k4 ba4 C
  go_wp2_with fail
  refine N4.out.mono ?_
  rintro e w4' ⟨rfl, rfl⟩
  have C := wait_any T4.out c1 9 100 3 tok2 (by decide) (by decide)
  have hw2 : waitT (List.map clOf [⟨1, ⟨#[98]⟩⟩, ⟨4, ⟨#[]⟩⟩]) 10 9 100 3 false 0 t1 [97] = (⟨1, 0, [98], 0⟩, t2, [99]) := tw2
  rw [hw2] at C
  have C := Lib.hid C
  have hs4 : (w4.alloc (.cells #[.int .i64 5, .int .i64 1, .slice D4 m4 d4, .int .i64 0] 105)).heap.size = w4.heap.size + 1 := by simp
  clear hw2 N4
  go_wp2_with fail
  refine C.out.mono ?_
  rintro e w5 h5
  obtain ⟨Y5, D5, m5, d5, rfl, r5, f5, t5, y5, k5⟩ := h5.open_
  have hm5 : 1 = m5 := r5.len
  subst hm5
  have p5 : Blk w5 w4.heap.size 105 #[.int .i64 5, .int .i64 1, .slice D4 m4 d4, .int .i64 0] := (k5.block _ (by omega) (fun hx => by
    rcases hx with hx | hx | hx
    · exact NEW4.out _ (.inl (.inl hx)) rfl
    · exact NEW4.out _ (.inr (.inl hx)) rfl
    · exact NEW4.out _ (.inr (.inr hx)) rfl)).trans P4.out
  have ba5 := (Below.refl w5.heap.size w5).alloc (Nat.le_refl _) (.cells #[.int .i64 1, .int .i64 0, .slice D5 1 d5, .int .i64 0] 105)
  have T5 := Lib.hid (t5.below ba5)
  obtain ⟨⟨c0, c1', c2, c3⟩, -⟩ := blk4 p5
  have hlt5 : w4.heap.size < w5.heap.size := p5.lt
  have hst5 : (convert 52 9 (.slice D5 1 d5)).run Try.prog (w5.alloc (.cells #[.int .i64 1, .int .i64 0, .slice D5 1 d5, .int .i64 0] 105)) = .ok (.string ⟨#[98]⟩) (w5.alloc (.cells #[.int .i64 1, .int .i64 0, .slice D5 1 d5, .int .i64 0] 105)) := conv_str (r5.bytes.below ba5) d5
  have N5 := Lib.hid (show Calls _ _ _ _ (fun e w' => e = .returned (.int .i64 3) ∧ w' = _) from T5.out.line.now_)
  have CB := Lib.hid (show Calls _ _ _ _ (CloneP _ 1 [99]) from T5.out.buf.bytes)
  have B5 := Lib.hid T5.out.line.old
  clear h5 r5 f5 t5 k5 p5 ba5 C hs4
  go_wp2_with fail
  refine N5.out.mono ?_
  rintro e w5' ⟨rfl, rfl⟩
  go_wp2_with fail
  refine CB.out.mono ?_
  rintro e w6 ⟨A6, c6, rfl, r6, -, b6⟩
  have hst6 : (convert 52 9 (.slice A6 1 c6)).run Try.prog w6 = .ok (.string ⟨#[99]⟩) w6 := conv_str r6.bytes c6
  have FIN := Lib.hid (B5.out.trans (b6.mono B5.out.size))
  clear hst5 r6 b6 CB N5
  go_wp2
  go_ret
  exact ⟨rfl, FIN.out⟩
end Go.Proofs.Ytgcbcdbfeaepkaa
