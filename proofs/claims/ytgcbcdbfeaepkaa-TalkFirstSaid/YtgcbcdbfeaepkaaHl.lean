/- What a law makes: a session, a buffer and clauses; waits of few chunks; the document's example (alive). The document's example of a wait (alive). TalkFirst: plain facts; whether a text stands in another one. -/
import Derived.Test.YtgcbcdbfeaepkaaHf
namespace Go.Proofs.Ytgcbcdbfeaepkaa
open Go.RowKit Go.Maps

theorem LS.rebase {w0 V w : World} {lp : Nat} {X R : Nat → Prop} {s : Ls} (h : LS V w lp X R s) (hb : Below w0.heap.size w0 V) : LS w0 w lp X R s :=
  ⟨h.at_, fun j hj => ⟨(h.inn j hj).1, Nat.le_trans hb.size (h.inn j hj).2⟩, h.dis, hb.trans (h.old.mono hb.size)⟩
theorem ts_make {w0 wc w1 V w2 w3 : World} {lp bp : Nat} {X R : Nat → Prop} {A : Option Addr} {n : Nat} {cs : List Cl} {Z : Nat → Nat → Prop} {s : Ls} {most : Nat} {gone : Int} (b0 : Below w0.heap.size w0 wc) (hc : ClsAt w1 A n cs Z) (hz : ∀ j, ZB A Z j → wc.heap.size ≤ j ∧ j < w1.heap.size) (b2 : Below w1.heap.size w1 V) (hl : LS V w2 lp X R s) (b1 : Below wc.heap.size wc w1)
    (hb : BS w0 w3 bp (fun j => j = w2.heap.size) [] most gone) (b3 : Below w2.heap.size w2 w3) : TS w0 w3 lp bp X R (fun j => j = w2.heap.size) A n cs Z s [] most gone := by
  have b0V : Below w0.heap.size w0 V := (b0.trans (b1.mono b0.size)).trans (b2.mono (Nat.le_trans b0.size b1.size))
  have s0 := b0.size; have s1 := b1.size; have s2 := b2.size; have s3 := hl.old.size; have s4 := b3.size
  refine ⟨(hl.rebase b0V).below b3, hb, ((hc.below b2).below (hl.old)).below b3, fun j hj e => ?_, fun j hj hzb => ?_, fun j hj hzb => ?_, fun j hj => ?_⟩
  · have := (hl.inn j hj).1; omega
  · have := (hl.inn j hj).2; have := (hz j hzb).2; omega
  · have := (hz j hzb).2; omega
  · have := hz j hj; omega
theorem waitOk_of (cs : List Cl) {most : Nat} (hm : most ≤ 2000) (u bd : Int) : ∀ (n : Nat) (come : Bool) (gone : Nat) (s : Ls) (bs : List UInt8), s.ds.length < n → (∀ d ∈ s.ds, d.2.length ≤ 1000) → 0 ≤ s.last → s.last + (s.ds.length : Int) * 1000000 ≤ 4611686018427387904 → gone + s.ds.length * 3000 ≤ 100000000000 → bs.length ≤ 2000 → waitOk cs most u bd n come gone s bs
  | 0, _, _, _, _, h, _, _, _, _, _ => by omega
  | n + 1, come, gone, s, bs, h, hd, hl0, hl1, hg, hb => by
    unfold waitOk
    split
    · trivial
    · refine .inr ⟨hl0, by omega, by omega, fun h1 => ?_⟩
      obtain ⟨ds, fin, wait, last, now, sent⟩ := s
      dsimp only at h hd hl0 hl1 hg
      cases ds with
      | nil =>
        unfold nextS at h1
        dsimp only at h1
        split at h1
        · split at h1
          · simp at h1
          · dsimp only at h1; omega
        · simp at h1
      | cons d r =>
        have htk := tk_bd d.1
        unfold nextS at h1 ⊢
        dsimp only at h1 ⊢
        split at h1
        · simp at h1
        · rename_i hlt
          rw [if_neg hlt]
          have hd0 := hd d (List.mem_cons_self ..)
          refine ⟨by show d.2.length ≤ _; omega, waitOk_of cs hm u bd n true _ _ _ ?_ ?_ ?_ ?_ ?_ ?_⟩
          · show r.length < n
            simp at h; omega
          · exact fun x hx => hd x (List.mem_cons_of_mem _ hx)
          · show 0 ≤ last + tk d.1
            omega
          · show last + tk d.1 + (r.length : Int) * 1000000 ≤ _
            simp only [List.length_cons] at hl1; push_cast at hl1; omega
          · show gone + goneBy bs d.2 most + r.length * 3000 ≤ _
            have : goneBy bs d.2 most ≤ 3000 := by unfold goneBy; rw [List.length_append]; omega
            simp only [List.length_cons] at hg; omega
          · show ((bs ++ d.2).drop (goneBy bs d.2 most)).length ≤ 2000
            unfold goneBy; rw [List.length_drop]; omega
def tcs : List Cl := [clOf ⟨1, ⟨#[98]⟩⟩, clOf ⟨4, ⟨#[]⟩⟩]
def t0 : Ls := ⟨[(1, [97]), (2, [98, 99])], 0, 0, 0, 0, []⟩
def t1 : Ls := ⟨[(2, [98, 99])], 0, 0, 1, 2, []⟩
def t2 : Ls := ⟨[], 0, 0, 3, 3, []⟩
theorem tw1 : waitT tcs 10 2 100 3 false 0 t0 [] = (⟨5, 1, [], 0⟩, t1, [97]) := by kernel_rfl
theorem tw2 : waitT tcs 10 9 100 3 false 0 t1 [97] = (⟨1, 0, [98], 0⟩, t2, [99]) := by kernel_rfl
theorem tok1 : waitOk tcs 10 2 100 3 false 0 t0 [] := waitOk_of _ (by decide) _ _ _ _ _ _ _ (by decide) (by decide) (by decide) (by decide) (by decide) (by decide)
theorem tok2 : waitOk tcs 10 9 100 3 false 0 t1 [97] := waitOk_of _ (by decide) _ _ _ _ _ _ _ (by decide) (by decide) (by decide) (by decide) (by decide) (by decide)
end Go.Proofs.Ytgcbcdbfeaepkaa
namespace Go.Proofs.Ytgcbcdbfeaepkaa
open Go.RowKit Go.Maps

/-- A wait's outcome in plain shape. -/
theorem WaitP.open_ {w0 w w' : World} {lp bp : Nat} {X R Y : Nat → Prop} {A : Option Addr} {n : Nat} {cs : List Cl} {Z : Nat → Nat → Prop} {most : Nat} {gone0 : Int} {k cl : Int} {txt : List UInt8} {g : Nat} {s : Ls} {bs : List UInt8} {e : Ending}
    (h : WaitP w0 w lp bp X R Y A n cs Z most gone0 (⟨k, cl, txt, g⟩, s, bs) e w') :
    ∃ Y' D m c, e = .returned (.agg #[.int .i64 k, .int .i64 cl, .slice D m c, .int .i64 (g : Nat)]) ∧ RowAt w' D m c txt ∧ (∀ j, InB D j → w.heap.size ≤ j) ∧ TS w0 w' lp bp X R Y' A n cs Z s bs most (gone0 + (g : Nat)) ∧ (∀ j, Y' j → Y j ∨ w.heap.size ≤ j) ∧ Kept (fun j => X j ∨ Y j ∨ ZB A Z j) w w' := by
  obtain ⟨Y', ⟨D, m, c, h1, h2, h3, _⟩, h4, h5, h6⟩ := h
  exact ⟨Y', D, m, c, h1, h2, h3, h4, h5, h6⟩
set_option maxHeartbeats 4000000 in
set_option maxRecDepth 100000 in
theorem talive_any (w : World) : Calls Try.prog 39 #[] w fun e w' => e = .returned (.bool true) ∧ Below w.heap.size w w' := by
  have hcv := conv_const
  obtain ⟨wc, hwc⟩ : ∃ wc, wc = w.alloc (.cells #[.int .i64 1, .string ⟨#[98]⟩, .bool false, .slice none 0 0, .int .i64 4, .string ⟨#[]⟩, .bool false, .slice none 0 0] 80) := ⟨_, rfl⟩
  have b0 : Below w.heap.size w wc := hwc ▸ (Below.refl _ w).alloc (Nat.le_refl _) _
  have hA : AClsAt wc (some ⟨w.heap.size, 0, none⟩) 2 [⟨1, ⟨#[98]⟩⟩, ⟨4, ⟨#[]⟩⟩] := by
    have hb := Blk.new w 80 #[.int .i64 1, .string ⟨#[98]⟩, .bool false, .slice none 0 0, .int .i64 4, .string ⟨#[]⟩, .bool false, .slice none 0 0]
    rw [← hwc] at hb
    refine ⟨rfl, by decide, fun _ => ⟨w.heap.size, 0, rfl, hb.lt, fun i p hi => ?_⟩⟩
    match i, hi with
    | 0, hi => simp at hi; subst hi; exact ⟨hb.cell 0, hb.cell 1, ⟨_, hb.cell 2⟩, _, _, _, hb.cell 3⟩
    | 1, hi => simp at hi; subst hi; exact ⟨hb.cell 4, hb.cell 5, ⟨_, hb.cell 6⟩, _, _, _, hb.cell 7⟩
    | i + 2, hi => simp at hi
  have C := Lib.hid (compile_any hA (fun p hp => by
    rcases List.mem_cons.1 hp with rfl | hp
    · exact .inl ⟨rfl, by decide⟩
    · rcases List.mem_cons.1 hp with rfl | hp
      · exact .inr (by decide)
      · cases hp) 2)
  have B0 := Lib.hid b0
  rw [hwc] at C
  have HWC := Lib.hid hwc
  clear b0 hA hwc
  go_enter Try.func39, Try.ntmps39
  go_wp2_with fail
  refine C.out.mono ?_
  rintro e w1 ⟨A1, c1, Z, rfl, hcl, hz, b1⟩
  rw [← HWC.out] at hz b1
  have HCL := Lib.hid hcl
  have HZ := Lib.hid hz
  have HB1 := Lib.hid b1
  obtain ⟨V, hV⟩ : ∃ V, V = ((w1.alloc (.cells #[.int .u8 97] 5 (1, 2))).alloc (.cells #[.int .u8 98, .int .u8 99] 5 (2, 3))).alloc (.cells #[.int .i64 1, .slice (some ⟨w1.heap.size, 0, none⟩) 1 1, .int .i64 2, .slice (some ⟨w1.heap.size + 1, 0, none⟩) 2 2] 103) := ⟨_, rfl⟩
  have b2 : Below w1.heap.size w1 V := hV ▸ (((Below.refl _ w1).alloc (Nat.le_refl _) _).alloc (by simp) _).alloc (by simp; omega) _
  have hch : ArgCh V (some ⟨w1.heap.size + 2, 0, none⟩) 2 [⟨1, some ⟨w1.heap.size, 0, none⟩, 1, 1, [97]⟩, ⟨2, some ⟨w1.heap.size + 1, 0, none⟩, 2, 2, [98, 99]⟩] := by
    have hb := Blk.new ((w1.alloc (.cells #[.int .u8 97] 5 (1, 2))).alloc (.cells #[.int .u8 98, .int .u8 99] 5 (2, 3))) 103 #[.int .i64 1, .slice (some ⟨w1.heap.size, 0, none⟩) 1 1, .int .i64 2, .slice (some ⟨w1.heap.size + 1, 0, none⟩) 2 2]
    rw [show ((w1.alloc (.cells #[.int .u8 97] 5 (1, 2))).alloc (.cells #[.int .u8 98, .int .u8 99] 5 (2, 3))).heap.size = w1.heap.size + 2 by simp] at hb
    have x1 := (bytes_new w1 [97] (1, 2)).below ((Below.refl _ _).alloc (Nat.le_refl _) (.cells #[.int .u8 98, .int .u8 99] 5 (2, 3)))
    have x1 := x1.below ((Below.refl _ _).alloc (Nat.le_refl _) (.cells #[.int .i64 1, .slice (some ⟨w1.heap.size, 0, none⟩) 1 1, .int .i64 2, .slice (some ⟨w1.heap.size + 1, 0, none⟩) 2 2] 103))
    have x2 := (bytes_new (w1.alloc (.cells #[.int .u8 97] 5 (1, 2))) [98, 99] (2, 3)).below ((Below.refl _ _).alloc (Nat.le_refl _) (.cells #[.int .i64 1, .slice (some ⟨w1.heap.size, 0, none⟩) 1 1, .int .i64 2, .slice (some ⟨w1.heap.size + 1, 0, none⟩) 2 2] 103))
    rw [show (w1.alloc (.cells #[.int .u8 97] 5 (1, 2))).heap.size = w1.heap.size + 1 by simp] at x2
    rw [hV]
    refine ⟨rfl, by decide, fun k hk => ?_, fun _ => ⟨w1.heap.size + 2, 0, rfl, hb.lt, fun i k hi => ?_⟩⟩
    · rcases List.mem_cons.1 hk with rfl | hk
      · exact ⟨x1, (by decide : 1 ≤ 140737488355328)⟩
      · rcases List.mem_cons.1 hk with rfl | hk
        · exact ⟨x2, (by decide : 2 ≤ 140737488355328)⟩
        · cases hk
    · match i, hi with
      | 0, hi => simp at hi; subst hi; exact ⟨hb.cell 0, hb.cell 1⟩
      | 1, hi => simp at hi; subst hi; exact ⟨hb.cell 2, hb.cell 3⟩
      | i + 2, hi => simp at hi
  have C2 := Lib.hid (show Calls _ _ _ _ (OpenP _ t0) from open_any (c := 2) 0 0 hch)
  have B2 := Lib.hid b2
  have HV := Lib.hid hV
  rw [hV] at C2
  have hcv2 := conv_const (w1.alloc (.cells #[.int .u8 97] 5 (1, 2))) #[.int .u8 98, .int .u8 99] 2 2
  rw [show (w1.alloc (.cells #[.int .u8 97] 5 (1, 2))).heap.size = w1.heap.size + 1 by simp] at hcv2
  clear hcl hz b1 b2 hch C hV
  go_wp2_with fail
  clear hcv2
  refine C2.out.mono ?_
  rintro e w2 ⟨lp, X, R, rfl, hl⟩
  rw [← HV.out] at hl
  have HL := Lib.hid hl
  have b02 : Below w.heap.size w w2 := ((B0.out.trans (HB1.out.mono B0.out.size)).trans (B2.out.mono (Nat.le_trans B0.out.size HB1.out.size))).trans (hl.old.mono (by have := B0.out.size; have := HB1.out.size; have := B2.out.size; omega))
  have C3 := Lib.hid (bs_new (w0 := w) 10 w2 b02)
  clear hl b02 C2
  go_wp2_with fail
  refine C3.out.mono ?_
  rintro e w3 ⟨rfl, hb, b3, -⟩
  have ht := ts_make (gone := 0) (most := 10) B0.out HCL.out HZ.out B2.out HL.out HB1.out hb b3
  have C := wait_any ht c1 2 100 3 tok1 (by decide) (by decide)
  have hw1 : waitT (List.map clOf [⟨1, ⟨#[98]⟩⟩, ⟨4, ⟨#[]⟩⟩]) 10 2 100 3 false 0 t0 [] = (⟨5, 1, [], 0⟩, t1, [97]) := tw1
  rw [hw1] at C
  have C := Lib.hid C
  clear hb b3 ht C3 hw1
  go_wp2_with fail
  refine C.out.mono ?_
  rintro e w4 h4
  obtain ⟨Y4, D4, m4, d4, rfl, r4, f4, t4, y4, k4⟩ := h4.open_
  have B4 := Lib.hid t4.line.old
  have ba4 := (Below.refl w4.heap.size w4).alloc (Nat.le_refl _) (.cells #[.int .i64 5, .int .i64 1, .slice D4 m4 d4, .int .i64 0] 105)
  have T4 := Lib.hid (t4.below ba4)
  have P4 := Lib.hid (Blk.new w4 105 #[.int .i64 5, .int .i64 1, .slice D4 m4 d4, .int .i64 0])
  have NEW4 := Lib.hid (fun j hj => t4.new (Nat.le_refl w4.heap.size) j hj)
  have N4 := Lib.hid (show Calls _ _ _ _ (fun e w' => e = .returned (.int .i64 2) ∧ w' = _) from T4.out.line.now_)
  clear h4 r4 f4 t4 k4 ba4 C
  go_wp2_with fail
  refine N4.out.mono ?_
  rintro e w4' ⟨rfl, rfl⟩
  have C := wait_any T4.out c1 9 100 3 tok2 (by decide) (by decide)
  have hw2 : waitT (List.map clOf [⟨1, ⟨#[98]⟩⟩, ⟨4, ⟨#[]⟩⟩]) 10 9 100 3 false 0 t1 [97] = (⟨1, 0, [98], 0⟩, t2, [99]) := tw2
  rw [hw2] at C
  have C := Lib.hid C
  have hs4 : (w4.alloc (.cells #[.int .i64 5, .int .i64 1, .slice D4 m4 d4, .int .i64 0] 105)).heap.size = w4.heap.size + 1 := by simp
  clear hw2 N4
  go_wp2_with fail
  refine C.out.mono ?_
  rintro e w5 h5
  obtain ⟨Y5, D5, m5, d5, rfl, r5, f5, t5, y5, k5⟩ := h5.open_
  have hm5 : 1 = m5 := r5.len
  subst hm5
  have p5 : Blk w5 w4.heap.size 105 #[.int .i64 5, .int .i64 1, .slice D4 m4 d4, .int .i64 0] := (k5.block _ (by omega) (fun hx => by
    rcases hx with hx | hx | hx
    · exact NEW4.out _ (.inl (.inl hx)) rfl
    · exact NEW4.out _ (.inr (.inl hx)) rfl
    · exact NEW4.out _ (.inr (.inr hx)) rfl)).trans P4.out
  have ba5 := (Below.refl w5.heap.size w5).alloc (Nat.le_refl _) (.cells #[.int .i64 1, .int .i64 0, .slice D5 1 d5, .int .i64 0] 105)
  have T5 := Lib.hid (t5.below ba5)
  obtain ⟨⟨c0, c1', c2, c3⟩, -⟩ := blk4 p5
  have hlt5 : w4.heap.size < w5.heap.size := p5.lt
  have hst5 : (convert 52 9 (.slice D5 1 d5)).run Try.prog (w5.alloc (.cells #[.int .i64 1, .int .i64 0, .slice D5 1 d5, .int .i64 0] 105)) = .ok (.string ⟨#[98]⟩) (w5.alloc (.cells #[.int .i64 1, .int .i64 0, .slice D5 1 d5, .int .i64 0] 105)) := conv_str (r5.bytes.below ba5) d5
  have N5 := Lib.hid (show Calls _ _ _ _ (fun e w' => e = .returned (.int .i64 3) ∧ w' = _) from T5.out.line.now_)
  have CB := Lib.hid (show Calls _ _ _ _ (CloneP _ 1 [99]) from T5.out.buf.bytes)
  have B5 := Lib.hid T5.out.line.old
  clear h5 r5 f5 t5 k5 p5 ba5 C hs4
  go_wp2_with fail
  refine N5.out.mono ?_
  rintro e w5' ⟨rfl, rfl⟩
  go_wp2_with fail
  refine CB.out.mono ?_
  rintro e w6 ⟨A6, c6, rfl, r6, -, b6⟩
  have hst6 : (convert 52 9 (.slice A6 1 c6)).run Try.prog w6 = .ok (.string ⟨#[99]⟩) w6 := conv_str r6.bytes c6
  have FIN := Lib.hid (B5.out.trans (b6.mono B5.out.size))
  clear hst5 r6 b6 CB N5
  go_wp2
  go_ret
  exact ⟨rfl, FIN.out⟩
end Go.Proofs.Ytgcbcdbfeaepkaa
namespace Go.Proofs.Ytgcbcdbfeaepkaa
open Go.RowKit Go.Maps

def wantL (one two all : List UInt8) : Int := if (exF one all).isSome then 0 else if (exF two all).isSome then 1 else -1
def fcs (one two : ByteArray) : List Cl := [clOf ⟨1, one⟩, clOf ⟨1, two⟩]
theorem found_two (one two : ByteArray) (bs : List UInt8) : foundT (fcs one two) 0 bs = match exF one.data.toList bs with
    | some (a, b) => some (0, a, b)
    | none => match exF two.data.toList bs with
      | some (a, b) => some (1, a, b)
      | none => none := by
  unfold fcs foundT
  show (match (if (1 : Int) = 1 then exF one.data.toList bs else none) with | some (a, b) => some (0, a, b) | none => foundT [clOf ⟨1, two⟩] (0 + 1) bs) = _
  rw [if_pos rfl]
  cases exF one.data.toList bs with
  | some p => rfl
  | none =>
    show (match (if (1 : Int) = 1 then exF two.data.toList bs else none) with | some (a, b) => some (0 + 1, a, b) | none => foundT [] (0 + 1 + 1) bs) = _
    rw [if_pos rfl]
    cases exF two.data.toList bs <;> rfl
theorem exF_text {l bs : List UInt8} {a b : Nat} (h : exF l bs = some (a, b)) : (bs.take b).drop a = l ∧ b ≤ bs.length := by
  unfold exF at h
  split at h
  · rename_i f hf
    obtain ⟨h1, -⟩ := List.find?_range_eq_some.1 hf
    injection h with h
    injection h with h2 h3
    subst h2 h3
    simp only [decide_eq_true_eq] at h1
    refine ⟨?_, h1.1⟩
    rw [List.drop_take, Nat.add_sub_cancel_left]
    exact h1.2
  · cases h
def stopF (one two : List UInt8) : List (Int × List UInt8) → List UInt8 → Int × Nat × List UInt8
  | [], all => (wantL one two all, 0, all)
  | d :: r, all => if 0 ≤ wantL one two all then (wantL one two all, r.length + 1, all) else stopF one two r (all ++ d.2)
def okF (one two : List UInt8) : List (Int × List UInt8) → List UInt8 → Prop
  | [], all => all.length ≤ 2000
  | d :: r, all => all.length ≤ 2000 ∧ (wantL one two all < 0 → okF one two r (all ++ d.2))
theorem okF_len {one two : List UInt8} {ds : List (Int × List UInt8)} {all : List UInt8} (h : okF one two ds all) : all.length ≤ 2000 := by
  cases ds with
  | nil => exact h
  | cons d r => exact h.1
theorem want_found (one two : ByteArray) (bs : List UInt8) : (0 ≤ wantL one.data.toList two.data.toList bs ∧ ∃ i a b, foundT (fcs one two) 0 bs = some (i, a, b) ∧ ((i : Nat) : Int) = wantL one.data.toList two.data.toList bs ∧ (bs.take b).drop a = (if wantL one.data.toList two.data.toList bs = 0 then one else two).data.toList) ∨
    (wantL one.data.toList two.data.toList bs = -1 ∧ foundT (fcs one two) 0 bs = none) := by
  rw [found_two]
  unfold wantL
  cases h1 : exF one.data.toList bs with
  | some p =>
    obtain ⟨a, b⟩ := p
    refine .inl ⟨by simp, 0, a, b, rfl, by simp, ?_⟩
    simp only [Option.isSome_some, if_true]
    exact (exF_text h1).1
  | none =>
    cases h2 : exF two.data.toList bs with
    | some p =>
      obtain ⟨a, b⟩ := p
      refine .inl ⟨by simp, 1, a, b, rfl, by simp, ?_⟩
      simp only [Option.isSome_none, Option.isSome_some, if_true, Bool.false_eq_true, if_false]
      rw [if_neg (by decide)]
      exact (exF_text h2).1
    | none => exact .inr ⟨by simp, rfl⟩
def FirstR (one two : ByteArray) (st : Int × Nat × List UInt8) (r : Out × Ls × List UInt8) : Prop :=
  (st.1 < 0 ∧ ∃ k cl s', r = (⟨k, cl, [], 0⟩, s', st.2.2) ∧ ¬ k = 1 ∧ ¬ k = 2 ∧ s'.ds = []) ∨ (0 ≤ st.1 ∧ ∃ s' bs', r = (⟨1, st.1, (if st.1 = 0 then one else two).data.toList, 0⟩, s', bs') ∧ s'.ds.length = st.2.1)
theorem first_wait (one two : ByteArray) (fin wt : Int) : ∀ (ds : List (Int × List UInt8)) (n : Nat) (come : Bool) (last now : Int) (all : List UInt8), ds.length < n → 0 ≤ last → last + (ds.length : Int) * 1000000 ≤ 500000000000000 → okF one.data.toList two.data.toList ds all →
    FirstR one two (stopF one.data.toList two.data.toList ds all) (waitT (fcs one two) 2000 1125899906842624 2251799813685248 n come 0 ⟨ds, fin, wt, last, now, []⟩ all) ∧ waitOk (fcs one two) 2000 1125899906842624 2251799813685248 n come 0 ⟨ds, fin, wt, last, now, []⟩ all
  | ds, 0, _, _, _, _, h, _, _, _ => by omega
  | ds, n + 1, come, last, now, all, h, hl0, hl1, hok => by
    have h7 : firstK 7 (fcs one two) 0 = -1 := by simp [fcs, firstK, clOf]
    have hfull : fullT (fcs one two) 2000 come all = false := by simp [fullT, h7]
    have hlen := okF_len hok
    rcases want_found one two all with ⟨hw, i, a, b, hf, hi, ht⟩ | ⟨hw, hf⟩
    · have hst : stopF one.data.toList two.data.toList ds all = (wantL one.data.toList two.data.toList all, ds.length, all) := by
        cases ds with
        | nil => rfl
        | cons d r => unfold stopF; rw [if_pos hw]; rfl
      unfold waitT waitOk
      rw [hf, hst]
      refine ⟨.inr ⟨hw, ⟨ds, fin, wt, last, now, []⟩, all.drop b, ?_, rfl⟩, trivial⟩
      show (_, _, _) = (_, _, _)
      rw [ht, hi]
    · unfold waitT waitOk
      rw [hf, hfull]
      dsimp only
      simp only [Bool.false_eq_true, if_false, false_or]
      have hm : min (1125899906842624 : Int) 2251799813685248 = 1125899906842624 := by decide
      rw [hm]
      cases ds with
      | nil =>
        have hst : stopF one.data.toList two.data.toList [] all = (wantL one.data.toList two.data.toList all, 0, all) := rfl
        rw [hst]
        have key : ∃ k now', nextS ⟨[], fin, wt, last, now, []⟩ 1125899906842624 = (k, [], ⟨[], fin, wt, last, now', []⟩) ∧ ¬ k = 1 := by
          unfold nextS
          dsimp only
          split
          · split
            · exact ⟨4, _, rfl, by decide⟩
            · exact ⟨fin + 1, _, rfl, by omega⟩
          · exact ⟨4, _, rfl, by decide⟩
        obtain ⟨k, now', hk, hk1⟩ := key
        rw [hk]
        dsimp only
        rw [if_neg hk1]
        refine ⟨.inl ⟨(by show wantL _ _ _ < 0; rw [hw]; decide), ?_⟩, hl0, by omega, by omega, fun h => absurd h hk1⟩
        have hE : ∃ k2 cl, endedT (fcs one two) k (decide ((2251799813685248 : Int) < 1125899906842624)) 0 = ⟨k2, cl, [], 0⟩ ∧ ¬ k2 = 1 ∧ ¬ k2 = 2 := by
          unfold endedT
          split
          · exact ⟨_, _, rfl, by decide, by decide⟩
          · split
            · exact ⟨_, _, rfl, by decide, by decide⟩
            · split
              · exact ⟨_, _, rfl, by decide, by decide⟩
              · exact ⟨_, _, rfl, by decide, by decide⟩
        obtain ⟨k2, cl, e, e1, e2⟩ := hE
        exact ⟨k2, cl, _, by rw [e], e1, e2, rfl⟩
      | cons d r =>
        have htk := tk_bd d.1
        simp only [List.length_cons] at hl1 h
        push_cast at hl1
        have hN : nextS ⟨d :: r, fin, wt, last, now, []⟩ 1125899906842624 = (1, d.2, ⟨r, fin, wt, last + tk d.1, last + tk d.1, []⟩) := by
          unfold nextS
          dsimp only
          rw [if_neg (by omega)]
        have hst : stopF one.data.toList two.data.toList (d :: r) all = stopF one.data.toList two.data.toList r (all ++ d.2) := by
          conv => lhs; unfold stopF
          rw [if_neg (by rw [hw]; decide)]
        have hok2 := hok.2 (by rw [hw]; decide)
        have hl2 := okF_len hok2
        have hg : goneBy all d.2 2000 = 0 := by unfold goneBy; omega
        rw [hN, hst]
        dsimp only
        rw [hg, List.drop_zero, Nat.zero_add]
        simp only [if_true]
        obtain ⟨i1, i2⟩ := first_wait one two fin wt r n true (last + tk d.1) (last + tk d.1) (all ++ d.2) (by omega) (by omega) (by omega) hok2
        exact ⟨i1, hl0, by omega, by omega, fun _ => ⟨by rw [List.length_append] at hl2; omega, i2⟩⟩
/-- Whether a text stands in another one. -/
theorem exF_isSome {l bs : List UInt8} {f : Nat} (h1 : f + l.length ≤ bs.length) (h2 : (bs.drop f).take l.length = l) : (exF l bs).isSome = true := by
  cases h : exF l bs with
  | some p => rfl
  | none =>
    unfold exF at h
    split at h
    · cases h
    · rename_i hn
      rw [List.find?_eq_none] at hn
      exact absurd (by simp only [decide_eq_true_eq]; exact ⟨h1, h2⟩) (hn f (by simp; omega))
def HasP (w : World) (b : Bool) (e : Ending) (w' : World) : Prop := e = .returned (.bool b) ∧ w' = w
set_option maxHeartbeats 1000000 in
set_option maxRecDepth 100000 in
theorem has_any (s x : ByteArray) (hs : s.size ≤ 1000000000000000) (hx : x.size ≤ 1000) (w : World) : Calls Try.prog 43 #[.string s, .string x] w (HasP w (exF x.data.toList s.data.toList).isSome) := by
  obtain ⟨B, hB⟩ : ∃ B, B = (exF x.data.toList s.data.toList).isSome := ⟨_, rfl⟩
  have HB := Lib.hid hB
  rw [← hB]
  clear hB
  go_enter Try.func43, Try.ntmps43
  go_wp2_with fail
  go_loopw [5] (fun i wr => ∃ j : Nat, j ≤ s.size + 1 ∧ i = .int .i64 (j : Nat) ∧ (∀ g, g < j → ¬ (g + x.size ≤ s.size ∧ (s.data.toList.drop g).take x.size = x.data.toList)) ∧ wr = w) (fun i _ => s.size + 1 - (intOf i).toNat)
  case atStart => exact ⟨0, Nat.zero_le _, rfl, fun g hg => by omega, rfl⟩
  case round =>
    obtain ⟨j, hj, rfl, hno, rfl⟩ := hrel
    have HNO := Lib.hid hno
    clear hno
    have hj0 : (0 : Int) ≤ (j : Int) := by omega
    have q1 : IntKind.i64.wrap ((j : Int) + (x.size : Int)) = (j : Int) + (x.size : Int) := IntWalk.i64_in _ (by omega)
    by_cases hlt : j + x.size ≤ s.size
    · have hlt' : (j : Int) + (x.size : Int) ≤ (s.size : Int) := by omega
      have hq : (j : Int) ≤ (j : Int) + (x.size : Int) := by omega
      have hex : ((s.extract j (j + x.size)).toList == x.toList) = decide ((s.data.toList.drop j).take x.size = x.data.toList) := by
        have e1 : (s.extract j (j + x.size)).toList = (s.data.toList.drop j).take x.size := by
          rw [ByteArray.toList_eq, ByteArray.data_extract]
          simp only [Array.toList_extract, List.extract_eq_take_drop]
          rw [show j + x.size - j = x.size by omega]
        have e2 : x.toList = x.data.toList := ByteArray.toList_eq x
        rw [e1, e2]
        by_cases h : (s.data.toList.drop j).take x.size = x.data.toList
        · rw [h]; simp
        · rw [decide_eq_false h]; simpa using h
      by_cases hm : (s.data.toList.drop j).take x.size = x.data.toList
      · rw [show decide ((s.data.toList.drop j).take x.size = x.data.toList) = true from decide_eq_true hm] at hex
        have HF := Lib.hid (show true = B from by rw [HB.out]; exact (exF_isSome (f := j) hlt hm).symm)
        clear hm
        go_wp2
        go_ret
        exact ⟨ret_bool HF.out, rfl⟩
      · rw [show decide ((s.data.toList.drop j).take x.size = x.data.toList) = false from decide_eq_false hm] at hex
        have HM := Lib.hid hm
        clear hm
        go_wp2
        go_roundw
        case rel => exact ⟨j + 1, by omega, by go_num, fun g hg => by
          by_cases hgj : g < j
          · exact HNO.out g hgj
          · obtain rfl : g = j := by omega
            exact fun h => HM.out h.2, trivial⟩
        case measure => simp [intOf] <;> omega
    · have hlt' : ¬ (j : Int) + (x.size : Int) ≤ (s.size : Int) := by omega
      have HF := Lib.hid (show false = B from by
        rw [HB.out, exF_none]
        · rfl
        · intro g ⟨h1, h2⟩
          by_cases hg : g < j
          · exact HNO.out g hg ⟨h1, h2⟩
          · have h1 : g + x.size ≤ s.size := h1
            omega)
      go_wp2
      go_ret
      exact ⟨ret_bool HF.out, rfl⟩
end Go.Proofs.Ytgcbcdbfeaepkaa
