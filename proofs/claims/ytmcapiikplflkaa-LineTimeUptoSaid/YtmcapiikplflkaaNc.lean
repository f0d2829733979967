/- A session that a law has made, with its blocks; its calls in plain words. -/
import Derived.Test.YtmcapiikplflkaaNb
namespace Go.Proofs.Ytmcapiikplflkaa
open Go.RowKit Go.Maps

/-- A session whose blocks are among X, its chunks' bytes in R, all made since w0. -/
structure LS (w0 w : World) (lp : Nat) (X R : Nat → Prop) (s : Ls) : Prop where
  at_ : ∃ A n c cks SA sn sc, LineAt w lp A n c cks s.fin s.wait s.last s.now SA sn sc s.sent ∧ plainD cks = s.ds ∧ X lp ∧ (∀ j, InB A j → X j) ∧ (∀ j, InB SA j → X j) ∧ ∀ k ∈ cks, ∀ j, InB k.A j → R j
  inn : ∀ j, X j ∨ R j → j < w.heap.size ∧ w0.heap.size ≤ j
  dis : ∀ j, X j → ¬ R j
  old : Below w0.heap.size w0 w
section
variable {w0 w w' : World} {lp : Nat} {X R Y : Nat → Prop} {s : Ls} {B : Option Addr} {m d : Nat} {xs : List UInt8}
theorem LS.kept (h : LS w0 w lp X R s) (hk : Kept Y w w') (hX : ∀ j, X j ∨ R j → ¬ Y j) (hY : ∀ j, Y j → w0.heap.size ≤ j) : LS w0 w' lp X R s := by
  obtain ⟨A, n, c, cks, SA, sn, sc, h1, h2, x1, x2, x3, x4⟩ := h.at_
  exact ⟨⟨A, n, c, cks, SA, sn, sc, h1.kept hk (hX _ (.inl x1)) (fun j hj => hX j (.inl (x2 j hj))) (fun j hj => hX j (.inl (x3 j hj))) (fun k hk2 j hj => hX j (.inr (x4 k hk2 j hj))), h2, x1, x2, x3, x4⟩, fun j hj => ⟨Nat.lt_of_lt_of_le (h.inn j hj).1 hk.size, (h.inn j hj).2⟩, h.dis, h.old.trans (hk.below h.old.size hY)⟩
theorem LS.below (h : LS w0 w lp X R s) (hb : Below w.heap.size w w') : LS w0 w' lp X R s := h.kept (kept_below (X := fun _ => False) hb) (fun _ _ h => h) (fun _ h => False.elim h)
theorem LS.own (h : LS w0 w lp X R s) : ∀ j, X j → w0.heap.size ≤ j := fun j hj => (h.inn j (.inl hj)).2
theorem LS.new (h : LS w0 w lp X R s) {j : Nat} (hj : w.heap.size ≤ j) : ¬ (X j ∨ R j) ∧ w0.heap.size ≤ j := ⟨fun hx => by have := (h.inn j hx).1; omega, by have := h.old.size; omega⟩
def NextQ (w0 w : World) (lp : Nat) (X R : Nat → Prop) (r : Int × List UInt8 × Ls) (e : Ending) (w' : World) : Prop := ∃ B m d, e = .returned (.tuple #[.int .i64 r.1, .slice B m d]) ∧ BytesAt w' B m r.2.1 ∧ LS w0 w' lp X R r.2.2 ∧ Kept X w w' ∧ ∀ j, InB B j → R j
theorem LS.next (h : LS w0 w lp X R s) (hl0 : 0 ≤ s.last) (hl1 : s.last ≤ 4611686018427387904) (limit : Int) : Calls Try.prog 37 #[.pointer (some ⟨lp, 0, none⟩), .int .i64 limit] w (NextQ w0 w lp X R (nextS s limit)) := by
  obtain ⟨A, n, c, cks, SA, sn, sc, h1, h2, x1, x2, x3, x4⟩ := h.at_
  have C := next_any h1 hl0 hl1 limit
  rw [h2] at C
  refine C.mono ?_
  rintro e w' ⟨A', n', c', cks', B, m, d, rfl, hb, ⟨e1, e2, e3⟩, h3, h4, hin, hck, hk, hBk⟩
  have hk2 : Kept X w w' := hk.mono (fun j _ hj => by
    rcases hj with rfl | hj
    · exact x1
    · exact x2 j hj)
  refine ⟨B, m, d, rfl, hb, ⟨⟨A', n', c', cks', SA, sn, sc, by rw [e1, e2, e3]; exact h3, h4, x1, fun j hj => x2 j (hin j hj), x3, fun k hk j hj => x4 k (hck k hk) j hj⟩, fun j hj => ⟨Nat.lt_of_lt_of_le (h.inn j hj).1 hk.size, (h.inn j hj).2⟩, h.dis, h.old.trans (hk2.below h.old.size h.own)⟩, hk2, fun j hj => by obtain ⟨k, hk3, hj⟩ := hBk j hj; exact x4 k hk3 j hj⟩
set_option maxRecDepth 100000 in
theorem LS.now_ (h : LS w0 w lp X R s) : Calls Try.prog 38 #[.pointer (some ⟨lp, 0, none⟩)] w fun e w' => e = .returned (.int .i64 s.now) ∧ w' = w := by
  obtain ⟨A, n, c, cks, SA, sn, sc, h1, -⟩ := h.at_
  obtain ⟨⟨c0, c1, c2, c3, c4, c5⟩, -⟩ := blk6 h1.top
  obtain ⟨nw, hnw⟩ : ∃ nw, nw = s.now := ⟨_, rfl⟩
  rw [← hnw] at c4 ⊢
  clear h h1 hnw c3
  go_enter Try.func38, Try.ntmps38
  go_wp2
  go_ret
  exact ⟨rfl, rfl⟩
set_option maxRecDepth 100000 in
theorem LS.rest (h : LS w0 w lp X R s) : Calls Try.prog 39 #[.pointer (some ⟨lp, 0, none⟩)] w fun e w' => e = .returned (.int .i64 (s.ds.length : Nat)) ∧ w' = w := by
  obtain ⟨A, n, c, cks, SA, sn, sc, h1, h2, -⟩ := h.at_
  obtain ⟨⟨c0, c1, c2, c3, c4, c5⟩, -⟩ := blk6 h1.top
  have hl : s.ds.length = n := by rw [← h2]; unfold plainD; rw [List.length_map]; exact h1.ch.1
  rw [hl]
  clear h h1 h2 hl c3 c4
  go_enter Try.func39, Try.ntmps39
  go_wp2
  go_ret
  exact ⟨rfl, rfl⟩
set_option maxRecDepth 100000 in
theorem LS.sent_ (h : LS w0 w lp X R s) (hs : s.sent.length ≤ 140737488355328) : Calls Try.prog 41 #[.pointer (some ⟨lp, 0, none⟩)] w (CloneP w s.sent.length s.sent) := by
  obtain ⟨A, n, c, cks, SA, sn, sc, h1, h2, -⟩ := h.at_
  obtain ⟨⟨c0, c1, c2, c3, c4, c5⟩, -⟩ := blk6 h1.top
  have hl := h1.row.len
  obtain ⟨se, hse⟩ : ∃ se, se = s.sent := ⟨_, rfl⟩
  have hb := h1.row.bytes
  rw [← hse] at hb hl hs ⊢
  rw [hl]
  have C := Lib.hid (clone_row sc hb (by omega))
  clear h h1 h2 c3 c4 hse hb hl hs
  go_enter Try.func41, Try.ntmps41
  go_wp2_with fail
  refine C.out.mono ?_
  rintro e w1 ⟨A', c', rfl, hr, hf, hb⟩
  have H := Lib.hid (show CloneP w sn se (.returned (.slice A' sn c')) w1 from ⟨A', c', rfl, hr, hf, hb⟩)
  clear hr hf hb C
  go_wp2
  go_ret
  exact H.out
def AftL (w0 w : World) (lp : Nat) (X R : Nat → Prop) (s : Ls) (w' : World) : Prop := ∃ X', LS w0 w' lp X' R s ∧ Kept X w w' ∧ ∀ j, X' j → X j ∨ w.heap.size ≤ j
set_option maxHeartbeats 1000000 in
set_option maxRecDepth 100000 in
theorem LS.send (h : LS w0 w lp X R s) (hx : BytesAt w B m xs) (hl : s.sent.length + m ≤ 140737488355328) : Calls Try.prog 40 #[.pointer (some ⟨lp, 0, none⟩), .slice B m d] w fun e w' => e = .returned (.tuple #[]) ∧ AftL w0 w lp X R { s with sent := s.sent ++ xs } w' := by
  obtain ⟨A, n, c, cks, SA, sn, sc, h1, h2, x1, x2, x3, x4⟩ := h.at_
  have HH := Lib.hid h
  have H1 := Lib.hid h1
  have HD := Lib.hid h2
  obtain ⟨fin, hfin⟩ : ∃ fin, fin = s.fin := ⟨_, rfl⟩
  obtain ⟨wait, hwait⟩ : ∃ wait, wait = s.wait := ⟨_, rfl⟩
  obtain ⟨last, hlast⟩ : ∃ last, last = s.last := ⟨_, rfl⟩
  obtain ⟨now, hnow⟩ : ∃ now, now = s.now := ⟨_, rfl⟩
  have htop := h1.top
  rw [← hfin, ← hwait, ← hlast, ← hnow] at htop
  obtain ⟨A', c', w1, hrun, hr, hk, hin⟩ := row_append (d := d) 30 h1.row hx (by have := h1.row.len; omega)
  have T1 : Blk w1 lp 129 #[.slice A n c, .int .i64 fin, .int .i64 wait, .int .i64 last, .int .i64 now, .slice SA sn sc] := (hk.block lp h1.top.lt (h1.a1.2.1)).trans htop
  have HRUN := Lib.hid hrun
  have FIN := Lib.hid (show AftL w0 w lp X R { s with sent := s.sent ++ xs } (w1.setCell ⟨lp, 5, none⟩ (.slice A' (sn + m) c')) from by
    have hlt := h1.top.lt
    have hk2 : Kept (fun j => j = lp ∨ InB SA j) w (w1.setCell ⟨lp, 5, none⟩ (.slice A' (sn + m) c')) := (hk.mono (fun j _ hj => .inr hj)).set_ (p := ⟨lp, 5, none⟩) (.inl (.inl rfl)) _
    have new : ∀ j, InB A' j → InB SA j ∨ w.heap.size ≤ j := hin
    have hnl : ¬ InB A' lp := fun hx => by
      rcases new lp hx with h5 | h5
      · exact h1.a1.2.1 h5
      · omega
    have hnA : ∀ j, InB A j → ¬ InB A' j := fun j hj hx => by
      rcases new j hx with h5 | h5
      · exact h1.a1.2.2 j hj h5
      · have := (h.inn j (.inl (x2 j hj))).1; omega
    have hnB : ∀ k ∈ cks, ∀ j, InB k.A j → ¬ InB A' j := fun k hk3 j hj hx => by
      rcases new j hx with h5 | h5
      · exact (h1.a2 k hk3 j hj).2.2 h5
      · have := (h.inn j (.inr (x4 k hk3 j hj))).1; omega
    have hkX : Kept X w (w1.setCell ⟨lp, 5, none⟩ (.slice A' (sn + m) c')) := hk2.mono (fun j _ hj => by
      rcases hj with rfl | hj
      · exact x1
      · exact x3 j hj)
    have hcs : ChAt (w1.setCell ⟨lp, 5, none⟩ (.slice A' (sn + m) c')) A n c cks := h1.ch.kept hk2 (fun j hj hx => by
      rcases hx with rfl | hx
      · exact h1.a1.1 hj
      · exact h1.a1.2.2 j hj hx) (fun k hk3 j hj hx => by
      have := h1.a2 k hk3 j hj
      rcases hx with hx | hx
      · exact this.1 hx
      · exact this.2.2 hx)
    refine ⟨fun j => X j ∨ (InB A' j ∧ w.heap.size ≤ j), ⟨⟨A, n, c, cks, A', sn + m, c', ⟨?_, hcs, hr.set_ (p := ⟨lp, 5, none⟩) hnl _, ⟨h1.a1.1, hnl, hnA⟩, fun k hk3 j hj => ⟨(h1.a2 k hk3 j hj).1, (h1.a2 k hk3 j hj).2.1, hnB k hk3 j hj⟩⟩, h2, .inl x1, fun j hj => .inl (x2 j hj), fun j hj => ?_, x4⟩, fun j hj => ?_, fun j hj => ?_, h.old.trans (hkX.below h.old.size h.own)⟩, hkX, fun j hj => ?_⟩
    · have := (T1.set_ 5 (.slice A' (sn + m) c') : Blk _ _ _ _)
      rw [hfin, hwait, hlast, hnow] at this
      exact this
    · rcases new j hj with h5 | h5
      · exact .inl (x3 j h5)
      · exact .inr ⟨hj, h5⟩
    · rcases hj with (hj | ⟨hj, hj2⟩) | hj
      · exact ⟨Nat.lt_of_lt_of_le (h.inn j (.inl hj)).1 hkX.size, (h.inn j (.inl hj)).2⟩
      · have := hr.lt hj
        have := h.old.size
        exact ⟨by simpa [World.setCell] using ‹j < w1.heap.size›, by omega⟩
      · exact ⟨Nat.lt_of_lt_of_le (h.inn j (.inr hj)).1 hkX.size, (h.inn j (.inr hj)).2⟩
    · rcases hj with hj | ⟨hj, hj2⟩
      · exact h.dis j hj
      · exact fun hx => by have := (h.inn j (.inr hx)).1; omega
    · rcases hj with hj | ⟨_, hj⟩
      · exact .inl hj
      · exact .inr hj)
  obtain ⟨⟨c0, c1, c2, c3, c4, c5⟩, -⟩ := blk6 htop
  obtain ⟨⟨d0, d1, d2, d3, d4, d5⟩, k0, k3, k4, k5⟩ := blk6 T1
  clear h h1 h2 hfin hwait hlast hnow htop hrun hr hk hin T1 x1 x2 x3 x4 hx
  go_enter Try.func40, Try.ntmps40
  go_wp2_with (at_builtin; refine wpList_append_run rfl (.tmp 8) (.tmp 9) 30 rfl _ _ _ rfl rfl HRUN.out ?_)
  go_end0
  exact ⟨rfl, FIN.out⟩
end
end Go.Proofs.Ytmcapiikplflkaa
