/- A session's calls in plain words: Next. -/
import Derived.Test.YtmcapiikplflkaaNa
namespace Go.Proofs.Ytmcapiikplflkaa
open Go.RowKit Go.Maps

/-- A session in plain words. -/
structure Ls where
  ds : List (Int × List UInt8)
  fin : Int
  wait : Int
  last : Int
  now : Int
  sent : List UInt8
def nextS (s : Ls) (limit : Int) : Int × List UInt8 × Ls :=
  match s.ds with
  | d :: r => if max limit s.now < s.last + tk d.1 then (4, [], { s with now := max limit s.now }) else (1, d.2, { s with ds := r, last := s.last + tk d.1, now := s.last + tk d.1 })
  | [] => if s.fin = 1 ∨ s.fin = 2 then (if max limit s.now < s.last + tk s.wait then (4, [], { s with now := max limit s.now }) else (s.fin + 1, [], { s with now := s.last + tk s.wait })) else (4, [], { s with now := max limit s.now })
def plainD (cks : List Ck) : List (Int × List UInt8) := cks.map fun k => (k.wait, k.bs)
section
variable {w w' : World} {lp : Nat} {A SA : Option Addr} {n c sn sc : Nat} {cks : List Ck} {fin wait last now : Int} {sent : List UInt8}
theorem ChAt.kept {X : Nat → Prop} (h : ChAt w A n c cks) (hk : Kept X w w') (hA : ∀ j, InB A j → ¬ X j) (hB : ∀ k ∈ cks, ∀ j, InB k.A j → ¬ X j) : ChAt w' A n c cks := by
  obtain ⟨h1, h2, h3, h4, h5⟩ := h
  refine ⟨h1, h2, h3, fun k hk2 => (h4 k hk2).kept hk (fun b o e => hB k hk2 b ⟨o, e⟩), fun hn => ?_⟩
  obtain ⟨b, o, e, hb, hc⟩ := h5 hn
  have hblk := hk.block b hb (hA b ⟨o, e⟩)
  exact ⟨b, o, e, Nat.lt_of_lt_of_le hb hk.size, fun i k hi => by
    obtain ⟨z0, z1, z2⟩ := hc i k hi
    exact ⟨(World.cell?_of_block (a := ⟨b, o + i * 2, none⟩) hblk).trans z0, (World.cell?_of_block (a := ⟨b, o + i * 2 + 1, none⟩) hblk).trans z1, (World.frozen?_of_block (a := ⟨b, o + i * 2 + 1, none⟩) hblk).trans z2⟩⟩
/-- The session's own cells turned. -/
theorem LineAt.turn (h : LineAt w lp A n c cks fin wait last now SA sn sc sent) {last2 now2 : Int} (hk : Kept (fun j => j = lp) w w') (T : Blk w' lp 129 #[.slice A n c, .int .i64 fin, .int .i64 wait, .int .i64 last2, .int .i64 now2, .slice SA sn sc]) : LineAt w' lp A n c cks fin wait last2 now2 SA sn sc sent :=
  ⟨T, h.ch.kept hk (fun j hj e => h.a1.1 (e ▸ hj)) (fun k hk2 j hj e => (h.a2 k hk2 j hj).1 e), h.row.kept hk (fun j hj e => h.a1.2.1 (e ▸ hj)), h.a1, h.a2⟩
theorem LineAt.kept {X : Nat → Prop} (h : LineAt w lp A n c cks fin wait last now SA sn sc sent) (hk : Kept X w w') (hl : ¬ X lp) (hA : ∀ j, InB A j → ¬ X j) (hS : ∀ j, InB SA j → ¬ X j) (hB : ∀ k ∈ cks, ∀ j, InB k.A j → ¬ X j) : LineAt w' lp A n c cks fin wait last now SA sn sc sent :=
  ⟨(hk.block lp h.top.lt hl).trans h.top, h.ch.kept hk hA hB, h.row.kept hk hS, h.a1, h.a2⟩
theorem LineAt.drewN (h : LineAt w lp A n c cks fin wait last now SA sn sc sent) (q : Nat) : LineAt (w.drewN q) lp A n c cks fin wait last now SA sn sc sent :=
  h.kept ((Kept.refl (fun _ => False) w).drewN q) (fun h => h) (fun _ _ h => h) (fun _ _ h => h) (fun _ _ _ _ h => h)
def NextP (w : World) (lp : Nat) (A : Option Addr) (cks : List Ck) (fin wait : Int) (SA : Option Addr) (sn sc : Nat) (sent : List UInt8) (r : Int × List UInt8 × Ls) (e : Ending) (w' : World) : Prop :=
  ∃ A' n' c' cks' B m d, e = .returned (.tuple #[.int .i64 r.1, .slice B m d]) ∧ BytesAt w' B m r.2.1 ∧ (r.2.2.fin = fin ∧ r.2.2.wait = wait ∧ r.2.2.sent = sent) ∧ LineAt w' lp A' n' c' cks' fin wait r.2.2.last r.2.2.now SA sn sc sent ∧ plainD cks' = r.2.2.ds ∧ (∀ j, InB A' j → InB A j) ∧ (∀ k ∈ cks', k ∈ cks) ∧ Kept (fun j => j = lp ∨ InB A j) w w' ∧ ∀ j, InB B j → ∃ k ∈ cks, InB k.A j
theorem nil_at (w : World) : BytesAt w none 0 [] := ⟨rfl, fun h => by omega⟩
theorem ret_int2 {a b : Int} {v : Value} (h : a = b) : Ending.returned (.tuple #[.int .i64 a, v]) = .returned (.tuple #[.int .i64 b, v]) := by rw [h]
set_option maxHeartbeats 4000000 in
set_option maxRecDepth 100000 in
theorem next_any (h : LineAt w lp A n c cks fin wait last now SA sn sc sent) (hl0 : 0 ≤ last) (hl1 : last ≤ 4611686018427387904) (limit : Int) :
    Calls Try.prog 37 #[.pointer (some ⟨lp, 0, none⟩), .int .i64 limit] w (NextP w lp A cks fin wait SA sn sc sent (nextS ⟨plainD cks, fin, wait, last, now, sent⟩ limit)) := by
  have C := coming_any h hl0 hl1
  obtain ⟨⟨c0, c1, c2, c3, c4, c5⟩, f0, f3, f4, f5⟩ := blk6 h.top
  have HH := Lib.hid h
  obtain ⟨lim, hlim⟩ : ∃ lim, lim = max limit now := ⟨_, rfl⟩
  -- the time turned, nothing told
  have NOW := Lib.hid (fun (q : Nat) (v : Int) => show LineAt ((w.drewN q).setCell ⟨lp, 4, none⟩ (.int .i64 v)) lp A n c cks fin wait last v SA sn sc sent ∧ Kept (fun j => j = lp ∨ InB A j) w ((w.drewN q).setCell ⟨lp, 4, none⟩ (.int .i64 v)) from
    ⟨h.turn (((Kept.refl (fun j => j = lp) w).drewN q).set_ (p := ⟨lp, 4, none⟩) (.inl rfl) _) (((h.top.drewN q).set_ 4 _ : Blk _ _ _ _)), ((Kept.refl _ w).drewN q).set_ (p := ⟨lp, 4, none⟩) (.inl (.inl rfl)) _⟩)
  have LATE := Lib.hid (fun (q : Nat) (hr : nextS ⟨plainD cks, fin, wait, last, now, sent⟩ limit = (4, [], ⟨plainD cks, fin, wait, last, lim, sent⟩)) => show NextP w lp A cks fin wait SA sn sc sent (nextS ⟨plainD cks, fin, wait, last, now, sent⟩ limit) (.returned (.tuple #[.int .i64 4, .slice none 0 0])) ((w.drewN q).setCell ⟨lp, 4, none⟩ (.int .i64 lim)) from by
    rw [hr]
    exact ⟨A, n, c, cks, none, 0, 0, rfl, nil_at _, ⟨rfl, rfl, rfl⟩, (NOW.out q lim).1, rfl, fun _ h => h, fun _ h => h, (NOW.out q lim).2, fun j hj => by obtain ⟨o, e⟩ := hj; cases e⟩)
  have hways : (limit < now ∧ lim = now) ∨ (¬ limit < now ∧ lim = limit) := by omega
  have HLIM := Lib.hid hlim
  cases hck : cks with
  | cons k0 rest =>
    subst hck
    have hb2 := tk_bd k0.wait
    obtain ⟨D, hD⟩ : ∃ D, D = last + tk k0.wait := ⟨_, rfl⟩
    rw [show comK (k0 :: rest) fin = 1 from rfl, show comD (k0 :: rest) fin wait last = D from hD.symm] at C
    have C := Lib.hid C
    have hr1 : lim < D → nextS ⟨plainD (k0 :: rest), fin, wait, last, now, sent⟩ limit = (4, [], ⟨plainD (k0 :: rest), fin, wait, last, lim, sent⟩) := fun h => by
      unfold nextS plainD
      simp only [List.map_cons]
      rw [← hlim, ← hD, if_pos h]
    have hr2 : ¬ lim < D → nextS ⟨plainD (k0 :: rest), fin, wait, last, now, sent⟩ limit = (1, k0.bs, ⟨plainD rest, fin, wait, D, D, sent⟩) := fun h => by
      unfold nextS plainD
      simp only [List.map_cons]
      rw [← hlim, ← hD, if_neg h]
    have HR1 := Lib.hid hr1
    have HR2 := Lib.hid hr2
    clear hr1 hr2 h hD hlim
    by_cases hlt : lim < D
    · rcases hways with ⟨h1, rfl⟩ | ⟨h1, rfl⟩
      all_goals
        go_enter Try.func37, Try.ntmps37
        go_wp2_with fail
        refine C.out.mono ?_
        rintro e w1 ⟨rfl, q, rfl⟩
        go_wp2_with fail
        go_ret2
        exact LATE.out q (HR1.out hlt)
    · have hlt' : ¬ lim < D := hlt
      have SH := Lib.hid (fun (q : Nat) => shift_any (w := (((w.drewN q).setCell ⟨lp, 4, none⟩ (.int .i64 D)).setCell ⟨lp, 3, none⟩ (.int .i64 D))) (lp := lp) (A := A) (n := n) (c := c) (k0 := k0) (rest := rest) (fin := fin) (wait := wait) (last := D) (now := D) (SA := SA) (sn := sn) (sc := sc) (sent := sent)
        (HH.out.turn ((((Kept.refl (fun j => j = lp) w).drewN q).set_ (p := ⟨lp, 4, none⟩) (.inl rfl) _).set_ (p := ⟨lp, 3, none⟩) (.inl rfl) _) ((((HH.out.top.drewN q).set_ 4 _).set_ 3 _ : Blk _ _ _ _))))
      rcases hways with ⟨h1, rfl⟩ | ⟨h1, rfl⟩
      all_goals
        go_enter Try.func37, Try.ntmps37
        go_wp2_with fail
        refine C.out.mono ?_
        rintro e w1 ⟨rfl, q, rfl⟩
        go_wp2_with fail
        refine (SH.out q).mono ?_
        rintro e w2 ⟨A', rfl, h2, hin, hk⟩
        have FIN := Lib.hid (show NextP w lp A (k0 :: rest) fin wait SA sn sc sent (1, k0.bs, ⟨plainD rest, fin, wait, D, D, sent⟩) (.returned (.tuple #[.int .i64 1, .slice k0.A k0.m k0.d])) w2 from
          ⟨A', n - 1, c - 1, rest, k0.A, k0.m, k0.d, rfl, (HH.out.ch.2.2.2.1 k0 (List.mem_cons_self ..)).kept (((((Kept.refl (fun j => j = lp ∨ InB A j) w).drewN q).set_ (p := ⟨lp, 4, none⟩) (.inl (.inl rfl)) (.int .i64 D)).set_ (p := ⟨lp, 3, none⟩) (.inl (.inl rfl)) (.int .i64 D)).trans hk (fun j hj => .inl hj)) (fun b o e hx => by
              have := HH.out.a2 k0 (List.mem_cons_self ..) b ⟨o, e⟩
              rcases hx with hx | hx
              · exact this.1 hx
              · exact this.2.1 hx), ⟨rfl, rfl, rfl⟩, h2, rfl, hin, fun k hk => List.mem_cons_of_mem _ hk, (((((Kept.refl (fun j => j = lp ∨ InB A j) w).drewN q).set_ (p := ⟨lp, 4, none⟩) (.inl (.inl rfl)) (.int .i64 D)).set_ (p := ⟨lp, 3, none⟩) (.inl (.inl rfl)) (.int .i64 D)).trans hk (fun j hj => .inl hj)), fun j hj => ⟨k0, List.mem_cons_self .., hj⟩⟩)
        clear h2 hin hk
        go_wp2_with fail
        go_ret2
        rw [HR2.out hlt]
        exact FIN.out
  | nil =>
    subst hck
    have hb2 := tk_bd wait
    obtain ⟨D, hD⟩ : ∃ D, D = last + tk wait := ⟨_, rfl⟩
    have END := Lib.hid (fun (q : Nat) (k : Int) (hr : nextS ⟨plainD [], fin, wait, last, now, sent⟩ limit = (k, [], ⟨plainD [], fin, wait, last, D, sent⟩)) => show NextP w lp A [] fin wait SA sn sc sent (nextS ⟨plainD [], fin, wait, last, now, sent⟩ limit) (.returned (.tuple #[.int .i64 k, .slice none 0 0])) ((w.drewN q).setCell ⟨lp, 4, none⟩ (.int .i64 D)) from by
      rw [hr]
      exact ⟨A, n, c, [], none, 0, 0, rfl, nil_at _, ⟨rfl, rfl, rfl⟩, (NOW.out q D).1, rfl, fun _ h => h, fun _ h => h, (NOW.out q D).2, fun j hj => by obtain ⟨o, e⟩ := hj; cases e⟩)
    have hrl : (¬ (fin = 1 ∨ fin = 2) ∨ lim < D) → nextS ⟨plainD [], fin, wait, last, now, sent⟩ limit = (4, [], ⟨plainD [], fin, wait, last, lim, sent⟩) := fun h => by
      unfold nextS plainD
      simp only [List.map_nil]
      by_cases h1 : fin = 1 ∨ fin = 2
      · rw [if_pos h1, ← hlim, ← hD, if_pos (h.resolve_left (fun hx => hx h1))]
      · rw [if_neg h1, ← hlim]
    have hre : (fin = 1 ∨ fin = 2) → ¬ lim < D → nextS ⟨plainD [], fin, wait, last, now, sent⟩ limit = (fin + 1, [], ⟨plainD [], fin, wait, last, D, sent⟩) := fun h1 h => by
      unfold nextS plainD
      simp only [List.map_nil]
      rw [if_pos h1, ← hlim, ← hD, if_neg h]
    have HRL := Lib.hid hrl
    have HRE := Lib.hid hre
    by_cases h1 : fin = 1
    · subst h1
      rw [show comK [] 1 = 2 from rfl, show comD [] 1 wait last = D by rw [hD]; rfl] at C
      have C := Lib.hid C
      clear hrl hre h hD hlim
      by_cases hlt : lim < D
      · rcases hways with ⟨h1, rfl⟩ | ⟨h1, rfl⟩
        all_goals
          go_enter Try.func37, Try.ntmps37
          go_wp2_with fail
          refine C.out.mono ?_
          rintro e w1 ⟨rfl, q, rfl⟩
          go_wp2_with fail
          go_ret2
          exact LATE.out q (HRL.out (.inr hlt))
      · have hlt' : ¬ lim < D := hlt
        rcases hways with ⟨h1, rfl⟩ | ⟨h1, rfl⟩
        all_goals
          go_enter Try.func37, Try.ntmps37
          go_wp2_with fail
          refine C.out.mono ?_
          rintro e w1 ⟨rfl, q, rfl⟩
          go_wp2_with fail
          go_ret2
          exact END.out q 2 (HRE.out (by simp) hlt)
    · by_cases h2 : fin = 2
      · subst h2
        rw [show comK [] 2 = 3 from rfl, show comD [] 2 wait last = D by rw [hD]; rfl] at C
        have C := Lib.hid C
        clear hrl hre h hD hlim h1
        by_cases hlt : lim < D
        · rcases hways with ⟨h1, rfl⟩ | ⟨h1, rfl⟩
          all_goals
            go_enter Try.func37, Try.ntmps37
            go_wp2_with fail
            refine C.out.mono ?_
            rintro e w1 ⟨rfl, q, rfl⟩
            go_wp2_with fail
            go_ret2
            exact LATE.out q (HRL.out (.inr hlt))
        · have hlt' : ¬ lim < D := hlt
          rcases hways with ⟨h1, rfl⟩ | ⟨h1, rfl⟩
          all_goals
            go_enter Try.func37, Try.ntmps37
            go_wp2_with fail
            refine C.out.mono ?_
            rintro e w1 ⟨rfl, q, rfl⟩
            go_wp2_with fail
            go_ret2
            exact END.out q 3 (HRE.out (by simp) hlt)
      · rw [show comK [] fin = 4 by unfold comK; rw [if_neg h1, if_neg h2], show comD [] fin wait last = 0 by unfold comD; rw [if_neg h1, if_neg h2]] at C
        have C := Lib.hid C
        have HN := Lib.hid (show ¬ (fin = 1 ∨ fin = 2) by omega)
        clear hrl hre h hD hlim h1 h2
        rcases hways with ⟨h1, rfl⟩ | ⟨h1, rfl⟩
        all_goals
          go_enter Try.func37, Try.ntmps37
          go_wp2_with fail
          refine C.out.mono ?_
          rintro e w1 ⟨rfl, q, rfl⟩
          go_wp2_with fail
          go_ret2
          exact LATE.out q (HRL.out (.inl HN.out))
end
end Go.Proofs.Ytmcapiikplflkaa
