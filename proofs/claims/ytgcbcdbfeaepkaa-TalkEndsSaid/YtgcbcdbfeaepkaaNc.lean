/- A session's calls in plain words: Next. A session that a law has made, with its blocks; its calls in plain words. -/
import Derived.Test.YtgcbcdbfeaepkaaNa
namespace Go.Proofs.Ytgcbcdbfeaepkaa
open Go.RowKit Go.Maps

/-- A session in plain words. -/
structure Ls where
  ds : List (Int × List UInt8)
  fin : Int
  wait : Int
  last : Int
  now : Int
  sent : List UInt8
def nextS (s : Ls) (limit : Int) : Int × List UInt8 × Ls :=
  match s.ds with
  | d :: r => if max limit s.now < s.last + tk d.1 then (4, [], { s with now := max limit s.now }) else (1, d.2, { s with ds := r, last := s.last + tk d.1, now := s.last + tk d.1 })
  | [] => if s.fin = 1 ∨ s.fin = 2 then (if max limit s.now < s.last + tk s.wait then (4, [], { s with now := max limit s.now }) else (s.fin + 1, [], { s with now := s.last + tk s.wait })) else (4, [], { s with now := max limit s.now })
def plainD (cks : List Ck) : List (Int × List UInt8) := cks.map fun k => (k.wait, k.bs)
section
variable {w w' : World} {lp : Nat} {A SA : Option Addr} {n c sn sc : Nat} {cks : List Ck} {fin wait last now : Int} {sent : List UInt8}
theorem ChAt.kept {X : Nat → Prop} (h : ChAt w A n c cks) (hk : Kept X w w') (hA : ∀ j, InB A j → ¬ X j) (hB : ∀ k ∈ cks, ∀ j, InB k.A j → ¬ X j) : ChAt w' A n c cks := by
  obtain ⟨h1, h2, h3, h4, h5⟩ := h
  refine ⟨h1, h2, h3, fun k hk2 => ⟨(h4 k hk2).1.kept hk (fun b o e => hB k hk2 b ⟨o, e⟩), (h4 k hk2).2⟩, fun hn => ?_⟩
  obtain ⟨b, o, e, hb, hc⟩ := h5 hn
  have hblk := hk.block b hb (hA b ⟨o, e⟩)
  exact ⟨b, o, e, Nat.lt_of_lt_of_le hb hk.size, fun i k hi => by
    obtain ⟨z0, z1, z2⟩ := hc i k hi
    exact ⟨(World.cell?_of_block (a := ⟨b, o + i * 2, none⟩) hblk).trans z0, (World.cell?_of_block (a := ⟨b, o + i * 2 + 1, none⟩) hblk).trans z1, (World.frozen?_of_block (a := ⟨b, o + i * 2 + 1, none⟩) hblk).trans z2⟩⟩
/-- The session's own cells turned. -/
theorem LineAt.turn (h : LineAt w lp A n c cks fin wait last now SA sn sc sent) {last2 now2 : Int} (hk : Kept (fun j => j = lp) w w') (T : Blk w' lp 158 #[.slice A n c, .int .i64 fin, .int .i64 wait, .int .i64 last2, .int .i64 now2, .slice SA sn sc]) : LineAt w' lp A n c cks fin wait last2 now2 SA sn sc sent :=
  ⟨T, h.ch.kept hk (fun _ hj e => h.a1.1 (e ▸ hj)) (fun k hk2 j hj e => (h.a2 k hk2 j hj).1 e), h.row.kept hk (fun _ hj e => h.a1.2.1 (e ▸ hj)), h.a1, h.a2⟩
theorem LineAt.kept {X : Nat → Prop} (h : LineAt w lp A n c cks fin wait last now SA sn sc sent) (hk : Kept X w w') (hl : ¬ X lp) (hA : ∀ j, InB A j → ¬ X j) (hS : ∀ j, InB SA j → ¬ X j) (hB : ∀ k ∈ cks, ∀ j, InB k.A j → ¬ X j) : LineAt w' lp A n c cks fin wait last now SA sn sc sent :=
  ⟨(hk.block lp h.top.lt hl).trans h.top, h.ch.kept hk hA hB, h.row.kept hk hS, h.a1, h.a2⟩
theorem LineAt.drewN (h : LineAt w lp A n c cks fin wait last now SA sn sc sent) (q : Nat) : LineAt (w.drewN q) lp A n c cks fin wait last now SA sn sc sent :=
  h.kept ((Kept.refl (fun _ => False) w).drewN q) (fun h => h) (fun _ _ h => h) (fun _ _ h => h) (fun _ _ _ _ h => h)
def NextP (w : World) (lp : Nat) (A : Option Addr) (cks : List Ck) (fin wait : Int) (SA : Option Addr) (sn sc : Nat) (sent : List UInt8) (r : Int × List UInt8 × Ls) (e : Ending) (w' : World) : Prop :=
  ∃ A' n' c' cks' B m d, e = .returned (.tuple #[.int .i64 r.1, .slice B m d]) ∧ BytesAt w' B m r.2.1 ∧ (r.2.2.fin = fin ∧ r.2.2.wait = wait ∧ r.2.2.sent = sent) ∧ LineAt w' lp A' n' c' cks' fin wait r.2.2.last r.2.2.now SA sn sc sent ∧ plainD cks' = r.2.2.ds ∧ (∀ j, InB A' j → InB A j) ∧ (∀ k ∈ cks', k ∈ cks) ∧ Kept (fun j => j = lp ∨ InB A j) w w' ∧ (∀ j, InB B j → ∃ k ∈ cks, InB k.A j) ∧ m ≤ d ∧ d ≤ maxLen
theorem nil_at (w : World) : BytesAt w none 0 [] := ⟨rfl, fun h => by omega⟩
theorem ret_int2 {a b : Int} {v : Value} (h : a = b) : Ending.returned (.tuple #[.int .i64 a, v]) = .returned (.tuple #[.int .i64 b, v]) := by rw [h]
set_option maxHeartbeats 4000000 in
set_option maxRecDepth 100000 in
theorem next_any (h : LineAt w lp A n c cks fin wait last now SA sn sc sent) (hl0 : 0 ≤ last) (hl1 : last ≤ 4611686018427387904) (limit : Int) :
    Calls Try.prog 78 #[.pointer (some ⟨lp, 0, none⟩), .int .i64 limit] w (NextP w lp A cks fin wait SA sn sc sent (nextS ⟨plainD cks, fin, wait, last, now, sent⟩ limit)) := by
  have C := coming_any h hl0 hl1
  obtain ⟨⟨c0, c1, c2, c3, c4, c5⟩, f0, f3, f4, f5⟩ := blk6 h.top
  have HH := Lib.hid h
  obtain ⟨lim, hlim⟩ : ∃ lim, lim = max limit now := ⟨_, rfl⟩
  -- the time turned, nothing told
  have NOW := Lib.hid (fun (q : Nat) (v : Int) => show LineAt ((w.drewN q).setCell ⟨lp, 4, none⟩ (.int .i64 v)) lp A n c cks fin wait last v SA sn sc sent ∧ Kept (fun j => j = lp ∨ InB A j) w ((w.drewN q).setCell ⟨lp, 4, none⟩ (.int .i64 v)) from
    ⟨h.turn (((Kept.refl (fun j => j = lp) w).drewN q).set_ (p := ⟨lp, 4, none⟩) (.inl rfl) _) (((h.top.drewN q).set_ 4 _ : Blk _ _ _ _)), ((Kept.refl _ w).drewN q).set_ (p := ⟨lp, 4, none⟩) (.inl (.inl rfl)) _⟩)
  have LATE := Lib.hid (fun (q : Nat) (hr : nextS ⟨plainD cks, fin, wait, last, now, sent⟩ limit = (4, [], ⟨plainD cks, fin, wait, last, lim, sent⟩)) => show NextP w lp A cks fin wait SA sn sc sent (nextS ⟨plainD cks, fin, wait, last, now, sent⟩ limit) (.returned (.tuple #[.int .i64 4, .slice none 0 0])) ((w.drewN q).setCell ⟨lp, 4, none⟩ (.int .i64 lim)) from by
    rw [hr]
    exact ⟨A, n, c, cks, none, 0, 0, rfl, nil_at _, ⟨rfl, rfl, rfl⟩, (NOW.out q lim).1, rfl, fun _ h => h, fun _ h => h, (NOW.out q lim).2, (fun j hj => by obtain ⟨o, e⟩ := hj; cases e), Nat.le_refl _, Nat.zero_le _⟩)
  have hways : (limit < now ∧ lim = now) ∨ (¬ limit < now ∧ lim = limit) := by omega
  have HLIM := Lib.hid hlim
  cases hck : cks with
  | cons k0 rest =>
    subst hck
    have hb2 := tk_bd k0.wait
    obtain ⟨D, hD⟩ : ∃ D, D = last + tk k0.wait := ⟨_, rfl⟩
    rw [show comK (k0 :: rest) fin = 1 from rfl, show comD (k0 :: rest) fin wait last = D from hD.symm] at C
    have C := Lib.hid C
    have hr1 : lim < D → nextS ⟨plainD (k0 :: rest), fin, wait, last, now, sent⟩ limit = (4, [], ⟨plainD (k0 :: rest), fin, wait, last, lim, sent⟩) := fun h => by
      unfold nextS plainD
      simp only [List.map_cons]
      rw [← hlim, ← hD, if_pos h]
    have hr2 : ¬ lim < D → nextS ⟨plainD (k0 :: rest), fin, wait, last, now, sent⟩ limit = (1, k0.bs, ⟨plainD rest, fin, wait, D, D, sent⟩) := fun h => by
      unfold nextS plainD
      simp only [List.map_cons]
      rw [← hlim, ← hD, if_neg h]
    have HR1 := Lib.hid hr1
    have HR2 := Lib.hid hr2
    clear hr1 hr2 h hD hlim
    by_cases hlt : lim < D
    · rcases hways with ⟨h1, rfl⟩ | ⟨h1, rfl⟩
      all_goals
        go_enter Try.func78, Try.ntmps78
        go_wp2_with fail
        refine C.out.mono ?_
        rintro e w1 ⟨rfl, q, rfl⟩
        go_wp2_with fail
        go_ret2
        exact LATE.out q (HR1.out hlt)
    · have hlt' : ¬ lim < D := hlt
      have SH := Lib.hid (fun (q : Nat) => shift_any (w := (((w.drewN q).setCell ⟨lp, 4, none⟩ (.int .i64 D)).setCell ⟨lp, 3, none⟩ (.int .i64 D))) (lp := lp) (A := A) (n := n) (c := c) (k0 := k0) (rest := rest) (fin := fin) (wait := wait) (last := D) (now := D) (SA := SA) (sn := sn) (sc := sc) (sent := sent)
        (HH.out.turn ((((Kept.refl (fun j => j = lp) w).drewN q).set_ (p := ⟨lp, 4, none⟩) (.inl rfl) _).set_ (p := ⟨lp, 3, none⟩) (.inl rfl) _) ((((HH.out.top.drewN q).set_ 4 _).set_ 3 _ : Blk _ _ _ _))))
      rcases hways with ⟨h1, rfl⟩ | ⟨h1, rfl⟩
      all_goals
        go_enter Try.func78, Try.ntmps78
        go_wp2_with fail
        refine C.out.mono ?_
        rintro e w1 ⟨rfl, q, rfl⟩
        go_wp2_with fail
        refine (SH.out q).mono ?_
        rintro e w2 ⟨A', rfl, h2, hin, hk⟩
        have FIN := Lib.hid (show NextP w lp A (k0 :: rest) fin wait SA sn sc sent (1, k0.bs, ⟨plainD rest, fin, wait, D, D, sent⟩) (.returned (.tuple #[.int .i64 1, .slice k0.A k0.m k0.d])) w2 from
          ⟨A', n - 1, c - 1, rest, k0.A, k0.m, k0.d, rfl, (HH.out.ch.2.2.2.1 k0 (List.mem_cons_self ..)).1.kept (((((Kept.refl (fun j => j = lp ∨ InB A j) w).drewN q).set_ (p := ⟨lp, 4, none⟩) (.inl (.inl rfl)) (.int .i64 D)).set_ (p := ⟨lp, 3, none⟩) (.inl (.inl rfl)) (.int .i64 D)).trans hk (fun j hj => .inl hj)) (fun b o e hx => by
              have := HH.out.a2 k0 (List.mem_cons_self ..) b ⟨o, e⟩
              rcases hx with hx | hx
              · exact this.1 hx
              · exact this.2.1 hx), ⟨rfl, rfl, rfl⟩, h2, rfl, hin, fun k hk => List.mem_cons_of_mem _ hk, (((((Kept.refl (fun j => j = lp ∨ InB A j) w).drewN q).set_ (p := ⟨lp, 4, none⟩) (.inl (.inl rfl)) (.int .i64 D)).set_ (p := ⟨lp, 3, none⟩) (.inl (.inl rfl)) (.int .i64 D)).trans hk (fun j hj => .inl hj)), (fun j hj => ⟨k0, List.mem_cons_self .., hj⟩), (HH.out.ch.2.2.2.1 k0 (List.mem_cons_self ..)).2⟩)
        clear h2 hin hk
        go_wp2_with fail
        go_ret2
        rw [HR2.out hlt]
        exact FIN.out
  | nil =>
    subst hck
    have hb2 := tk_bd wait
    obtain ⟨D, hD⟩ : ∃ D, D = last + tk wait := ⟨_, rfl⟩
    have END := Lib.hid (fun (q : Nat) (k : Int) (hr : nextS ⟨plainD [], fin, wait, last, now, sent⟩ limit = (k, [], ⟨plainD [], fin, wait, last, D, sent⟩)) => show NextP w lp A [] fin wait SA sn sc sent (nextS ⟨plainD [], fin, wait, last, now, sent⟩ limit) (.returned (.tuple #[.int .i64 k, .slice none 0 0])) ((w.drewN q).setCell ⟨lp, 4, none⟩ (.int .i64 D)) from by
      rw [hr]
      exact ⟨A, n, c, [], none, 0, 0, rfl, nil_at _, ⟨rfl, rfl, rfl⟩, (NOW.out q D).1, rfl, fun _ h => h, fun _ h => h, (NOW.out q D).2, (fun j hj => by obtain ⟨o, e⟩ := hj; cases e), Nat.le_refl _, Nat.zero_le _⟩)
    have hrl : (¬ (fin = 1 ∨ fin = 2) ∨ lim < D) → nextS ⟨plainD [], fin, wait, last, now, sent⟩ limit = (4, [], ⟨plainD [], fin, wait, last, lim, sent⟩) := fun h => by
      unfold nextS plainD
      simp only [List.map_nil]
      by_cases h1 : fin = 1 ∨ fin = 2
      · rw [if_pos h1, ← hlim, ← hD, if_pos (h.resolve_left (fun hx => hx h1))]
      · rw [if_neg h1, ← hlim]
    have hre : (fin = 1 ∨ fin = 2) → ¬ lim < D → nextS ⟨plainD [], fin, wait, last, now, sent⟩ limit = (fin + 1, [], ⟨plainD [], fin, wait, last, D, sent⟩) := fun h1 h => by
      unfold nextS plainD
      simp only [List.map_nil]
      rw [if_pos h1, ← hlim, ← hD, if_neg h]
    have HRL := Lib.hid hrl
    have HRE := Lib.hid hre
    by_cases h1 : fin = 1
    · subst h1
      rw [show comK [] 1 = 2 from rfl, show comD [] 1 wait last = D by rw [hD]; rfl] at C
      have C := Lib.hid C
      clear hrl hre h hD hlim
      by_cases hlt : lim < D
      · rcases hways with ⟨h1, rfl⟩ | ⟨h1, rfl⟩
        all_goals
          go_enter Try.func78, Try.ntmps78
          go_wp2_with fail
          refine C.out.mono ?_
          rintro e w1 ⟨rfl, q, rfl⟩
          go_wp2_with fail
          go_ret2
          exact LATE.out q (HRL.out (.inr hlt))
      · have hlt' : ¬ lim < D := hlt
        rcases hways with ⟨h1, rfl⟩ | ⟨h1, rfl⟩
        all_goals
          go_enter Try.func78, Try.ntmps78
          go_wp2_with fail
          refine C.out.mono ?_
          rintro e w1 ⟨rfl, q, rfl⟩
          go_wp2_with fail
          go_ret2
          exact END.out q 2 (HRE.out (by simp) hlt)
    · by_cases h2 : fin = 2
      · subst h2
        rw [show comK [] 2 = 3 from rfl, show comD [] 2 wait last = D by rw [hD]; rfl] at C
        have C := Lib.hid C
        clear hrl hre h hD hlim h1
        by_cases hlt : lim < D
        · rcases hways with ⟨h1, rfl⟩ | ⟨h1, rfl⟩
          all_goals
            go_enter Try.func78, Try.ntmps78
            go_wp2_with fail
            refine C.out.mono ?_
            rintro e w1 ⟨rfl, q, rfl⟩
            go_wp2_with fail
            go_ret2
            exact LATE.out q (HRL.out (.inr hlt))
        · have hlt' : ¬ lim < D := hlt
          rcases hways with ⟨h1, rfl⟩ | ⟨h1, rfl⟩
          all_goals
            go_enter Try.func78, Try.ntmps78
            go_wp2_with fail
            refine C.out.mono ?_
            rintro e w1 ⟨rfl, q, rfl⟩
            go_wp2_with fail
            go_ret2
            exact END.out q 3 (HRE.out (by simp) hlt)
      · rw [show comK [] fin = 4 by unfold comK; rw [if_neg h1, if_neg h2], show comD [] fin wait last = 0 by unfold comD; rw [if_neg h1, if_neg h2]] at C
        have C := Lib.hid C
        have HN := Lib.hid (show ¬ (fin = 1 ∨ fin = 2) by omega)
        clear hrl hre h hD hlim h1 h2
        rcases hways with ⟨h1, rfl⟩ | ⟨h1, rfl⟩
        all_goals
          go_enter Try.func78, Try.ntmps78
          go_wp2_with fail
          refine C.out.mono ?_
          rintro e w1 ⟨rfl, q, rfl⟩
          go_wp2_with fail
          go_ret2
          exact LATE.out q (HRL.out (.inl HN.out))
end
end Go.Proofs.Ytgcbcdbfeaepkaa
namespace Go.Proofs.Ytgcbcdbfeaepkaa
open Go.RowKit Go.Maps

/-- A session whose blocks are among X, its chunks' bytes in R, all made since w0. -/
structure LS (w0 w : World) (lp : Nat) (X R : Nat → Prop) (s : Ls) : Prop where
  at_ : ∃ A n c cks SA sn sc, LineAt w lp A n c cks s.fin s.wait s.last s.now SA sn sc s.sent ∧ plainD cks = s.ds ∧ X lp ∧ (∀ j, InB A j → X j) ∧ (∀ j, InB SA j → X j) ∧ ∀ k ∈ cks, ∀ j, InB k.A j → R j
  inn : ∀ j, X j ∨ R j → j < w.heap.size ∧ w0.heap.size ≤ j
  dis : ∀ j, X j → ¬ R j
  old : Below w0.heap.size w0 w
section
variable {w0 w w' : World} {lp : Nat} {X R Y : Nat → Prop} {s : Ls} {B : Option Addr} {m d : Nat} {xs : List UInt8}
theorem LS.kept (h : LS w0 w lp X R s) (hk : Kept Y w w') (hX : ∀ j, X j ∨ R j → ¬ Y j) (hY : ∀ j, Y j → w0.heap.size ≤ j) : LS w0 w' lp X R s := by
  obtain ⟨A, n, c, cks, SA, sn, sc, h1, h2, x1, x2, x3, x4⟩ := h.at_
  exact ⟨⟨A, n, c, cks, SA, sn, sc, h1.kept hk (hX _ (.inl x1)) (fun j hj => hX j (.inl (x2 j hj))) (fun j hj => hX j (.inl (x3 j hj))) (fun k hk2 j hj => hX j (.inr (x4 k hk2 j hj))), h2, x1, x2, x3, x4⟩, fun j hj => ⟨Nat.lt_of_lt_of_le (h.inn j hj).1 hk.size, (h.inn j hj).2⟩, h.dis, h.old.trans (hk.below h.old.size hY)⟩
theorem LS.below (h : LS w0 w lp X R s) (hb : Below w.heap.size w w') : LS w0 w' lp X R s := h.kept (kept_below (X := fun _ => False) hb) (fun _ _ h => h) (fun _ h => False.elim h)
theorem LS.own (h : LS w0 w lp X R s) : ∀ j, X j → w0.heap.size ≤ j := fun j hj => (h.inn j (.inl hj)).2
theorem LS.new (h : LS w0 w lp X R s) {j : Nat} (hj : w.heap.size ≤ j) : ¬ (X j ∨ R j) ∧ w0.heap.size ≤ j := ⟨fun hx => by have := (h.inn j hx).1; omega, by have := h.old.size; omega⟩
def NextQ (w0 w : World) (lp : Nat) (X R : Nat → Prop) (r : Int × List UInt8 × Ls) (e : Ending) (w' : World) : Prop := ∃ B m d, e = .returned (.tuple #[.int .i64 r.1, .slice B m d]) ∧ BytesAt w' B m r.2.1 ∧ LS w0 w' lp X R r.2.2 ∧ Kept X w w' ∧ ∀ j, InB B j → R j
def NextQ2 (w0 w : World) (lp : Nat) (X R : Nat → Prop) (r : Int × List UInt8 × Ls) (e : Ending) (w' : World) : Prop := ∃ B m d, e = .returned (.tuple #[.int .i64 r.1, .slice B m d]) ∧ BytesAt w' B m r.2.1 ∧ LS w0 w' lp X R r.2.2 ∧ Kept X w w' ∧ (∀ j, InB B j → R j) ∧ m ≤ d ∧ d ≤ maxLen
theorem LS.next2 (h : LS w0 w lp X R s) (hl0 : 0 ≤ s.last) (hl1 : s.last ≤ 4611686018427387904) (limit : Int) : Calls Try.prog 78 #[.pointer (some ⟨lp, 0, none⟩), .int .i64 limit] w (NextQ2 w0 w lp X R (nextS s limit)) := by
  obtain ⟨A, n, c, cks, SA, sn, sc, h1, h2, x1, x2, x3, x4⟩ := h.at_
  have C := next_any h1 hl0 hl1 limit
  rw [h2] at C
  refine C.mono ?_
  rintro e w' ⟨A', n', c', cks', B, m, d, rfl, hb, ⟨e1, e2, e3⟩, h3, h4, hin, hck, hk, hBk, hmd⟩
  have hk2 : Kept X w w' := hk.mono (fun j _ hj => by
    rcases hj with rfl | hj
    · exact x1
    · exact x2 j hj)
  refine ⟨B, m, d, rfl, hb, ⟨⟨A', n', c', cks', SA, sn, sc, by rw [e1, e2, e3]; exact h3, h4, x1, fun j hj => x2 j (hin j hj), x3, fun k hk j hj => x4 k (hck k hk) j hj⟩, fun j hj => ⟨Nat.lt_of_lt_of_le (h.inn j hj).1 hk.size, (h.inn j hj).2⟩, h.dis, h.old.trans (hk2.below h.old.size h.own)⟩, hk2, (fun j hj => by obtain ⟨k, hk3, hj⟩ := hBk j hj; exact x4 k hk3 j hj), hmd⟩
theorem LS.next (h : LS w0 w lp X R s) (hl0 : 0 ≤ s.last) (hl1 : s.last ≤ 4611686018427387904) (limit : Int) : Calls Try.prog 78 #[.pointer (some ⟨lp, 0, none⟩), .int .i64 limit] w (NextQ w0 w lp X R (nextS s limit)) :=
  (h.next2 hl0 hl1 limit).mono fun _ _ ⟨B, m, d, h1, h2, h3, h4, h5, _⟩ => ⟨B, m, d, h1, h2, h3, h4, h5⟩
set_option maxRecDepth 100000 in
theorem LS.now_ (h : LS w0 w lp X R s) : Calls Try.prog 47 #[.pointer (some ⟨lp, 0, none⟩)] w fun e w' => e = .returned (.int .i64 s.now) ∧ w' = w := by
  obtain ⟨A, n, c, cks, SA, sn, sc, h1, -⟩ := h.at_
  obtain ⟨⟨c0, c1, c2, c3, c4, c5⟩, -⟩ := blk6 h1.top
  obtain ⟨nw, hnw⟩ : ∃ nw, nw = s.now := ⟨_, rfl⟩
  rw [← hnw] at c4 ⊢
  clear h h1 hnw c3
  go_enter Try.func47, Try.ntmps47
  go_wp2
  go_ret
  exact ⟨rfl, rfl⟩
set_option maxRecDepth 100000 in
theorem LS.rest (h : LS w0 w lp X R s) : Calls Try.prog 45 #[.pointer (some ⟨lp, 0, none⟩)] w fun e w' => e = .returned (.int .i64 (s.ds.length : Nat)) ∧ w' = w := by
  obtain ⟨A, n, c, cks, SA, sn, sc, h1, h2, -⟩ := h.at_
  obtain ⟨⟨c0, c1, c2, c3, c4, c5⟩, -⟩ := blk6 h1.top
  have hl : s.ds.length = n := by rw [← h2]; unfold plainD; rw [List.length_map]; exact h1.ch.1
  rw [hl]
  clear h h1 h2 hl c3 c4
  go_enter Try.func45, Try.ntmps45
  go_wp2
  go_ret
  exact ⟨rfl, rfl⟩
def AftL (w0 w : World) (lp : Nat) (X R : Nat → Prop) (s : Ls) (w' : World) : Prop := ∃ X', LS w0 w' lp X' R s ∧ Kept X w w' ∧ ∀ j, X' j → X j ∨ w.heap.size ≤ j
end
end Go.Proofs.Ytgcbcdbfeaepkaa
