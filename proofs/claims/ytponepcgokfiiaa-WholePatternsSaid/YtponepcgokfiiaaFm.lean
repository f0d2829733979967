/- Plain facts: a glob's tree, told as a regular expression, is read as the same tree; what a glob matches as a whole its tree finds. No program. WholePatterns' soundPattern. WholePatterns' walk. -/
import Derived.Test.YtponepcgokfiiaaFa
import Derived.Test.YtponepcgokfiiaaFg
import Derived.Test.YtponepcgokfiiaaXbs
import Derived.Test.YtponepcgokfiiaaGw
import Derived.Test.YtponepcgokfiiaaFd
import Derived.Test.YtponepcgokfiiaaWq
namespace Go.Proofs.Ytponepcgokfiiaa

theorem classP_set {L : List UInt8 → Lr} {sg : UInt8} {l : List UInt8} {t : Tr} {n : Nat} (h : classP L sg l = .ok t n) : ∃ rs neg, t = .mk 1 (rangesL rs neg) [] := by
  unfold classP at h
  split at h
  · split at h
    · rename_i rs k _; injection h with h1 _; exact ⟨rs, true, h1.symm⟩
    · cases h
  · split at h
    · rename_i rs k _; injection h with h1 _; exact ⟨rs, false, h1.symm⟩
    · cases h
theorem star_sized : SizedP (.mk 4 [] [anyT]) 1 := by
  unfold SizedP; decide +kernel
theorem pieceG_form {l : List UInt8} {t : Tr} {n : Nat} (h : pieceG l = .ok t n) : PieceT t ∧ SizedP t 1 := by
  unfold pieceG at h
  split at h
  · injection h with h1 _; subst h1; exact ⟨set_piece [] true, set_sized _ (Nat.le_refl _)⟩
  split at h
  · injection h with h1 _; subst h1; exact ⟨.sign (.inl rfl) (set_piece [] true), star_sized⟩
  split at h
  · cases hc : classP letterG 33 (l.drop 1) with
    | ok t' n' =>
      rw [hc] at h
      injection h with h1 _
      obtain ⟨rs, neg, e⟩ := classP_set hc
      subst h1; subst e
      exact ⟨set_piece rs neg, set_sized _ (Nat.le_refl _)⟩
    | err c o => rw [hc] at h; cases h
  · split at h
    · injection h with h1 _; subst h1; exact ⟨.set (rangesL_one (Nat.le_refl _)), set_sized _ (Nat.le_refl _)⟩
    · cases h
theorem pieces_form : ∀ (f : Nat) (l : List UInt8) (ts : List Tr), piecesP f l = .ok ts → ∀ t, t ∈ ts → PieceT t ∧ SizedP t 1
  | 0, _, _, h => by cases h
  | f + 1, l, ts, h => by
    unfold piecesP at h
    split at h
    · injection h with h; subst h; intro t ht; cases ht
    · split at h
      · cases h
      · rename_i t n hp
        cases hk : piecesP f (l.drop n) with
        | err c o => rw [hk] at h; cases h
        | ok us =>
          rw [hk] at h
          simp only [Ks.pre] at h
          injection h with h
          subst h
          intro u hu
          rcases List.mem_append.1 hu with hu | hu
          · obtain rfl := List.mem_singleton.1 hu
            exact pieceG_form hp
          · exact pieces_form f _ us hk u hu
theorem sized_all : ∀ ts : List Tr, (∀ t, t ∈ ts → SizedP t 1) → (ts.flatMap txtP).length ≤ 1300 * ts.length ∧ stepsK ts ≤ 4 * ts.length
  | [], _ => ⟨by simp, by simp [stepsK]⟩
  | t :: ts, h => by
    have h1 := h t (List.mem_cons_self ..)
    have h2 := sized_all ts fun u hu => h u (List.mem_cons_of_mem _ hu)
    unfold SizedP at h1
    rw [List.flatMap_cons, List.length_append, List.length_cons]
    unfold stepsK
    exact ⟨by omega, by omega⟩
theorem glob_form {l : List UInt8} (h : (parseG l).2.1 = 0) : ∃ ts, parseG l = (.mk 2 [] ts, 0, 0) ∧ ts.length ≤ 256 ∧ piecesP (l.length + 1) l = .ok ts := by
  unfold parseG at h ⊢
  split
  · rename_i h1; rw [if_pos h1] at h; exact absurd h (by decide)
  · rename_i h1
    rw [if_neg h1] at h
    cases hp : piecesF l with
    | err c o => rw [hp] at h; exact absurd h (gpcs_code hp)
    | ok ts =>
      have h2 := pieces_len _ _ _ hp
      exact ⟨ts, rfl, by omega, hp⟩
theorem glob_alt {l : List UInt8} (h : (parseG l).2.1 = 0) : AltT (parseG l).1 ∧ (bodyT (parseG l).1).length ≤ 1000000000 ∧ stepsT (parseG l).1 ≤ 900000 := by
  obtain ⟨ts, e, hl, hp⟩ := glob_form h
  have hf := pieces_form _ _ _ hp
  have hs := sized_all ts fun t ht => (hf t ht).2
  rw [e]
  refine ⟨.cat (.mk fun t ht => (hf t ht).1), ?_, ?_⟩
  · show (bodyT (.mk 2 [] ts)).length ≤ _
    rw [body_cat]; omega
  · show stepsT (.mk 2 [] ts) ≤ _
    unfold stepsT
    rw [if_pos (.inl rfl)]; omega
theorem glob_back {l : List UInt8} (h : (parseG l).2.1 = 0) : parseX (bodyT (parseG l).1) = if 256 < (bodyT (parseG l).1).length then (zeroT, 2, 0) else ((parseG l).1, 0, 0) := (back_parse (whole_text (glob_alt h).1)).2
theorem wpiece_good {t : Tr} (h : IsPc t) (d : Nat) : GoodT (d + 2) t := by
  rcases h with ⟨rs, rfl⟩ | rfl
  · exact ⟨by decide, by decide, fun h => absurd h (by decide), fun t h => nomatch h⟩
  · refine ⟨by decide, by decide, fun _ h => (List.cons_ne_nil _ _ h), fun t h => ?_⟩
    obtain rfl := List.mem_singleton.1 h
    exact ⟨by decide, by decide, fun h => absurd h (by decide), fun t h => nomatch h⟩
theorem wglobTab (p s : List UInt8) (hc : (parseG p).2.1 = 0) (d : Nat) : GoodT (d + 3) (parseG p).1 ∧ matchG p s = tabT s (d + 3) (parseG p).1 0 s.length := by
  obtain ⟨ts, e, hl, hp⟩ := glob_form hc
  have hpc : ∀ t, t ∈ ts → IsPc t := piecesP_isPc (p.length + 1) p ts hp
  have e1 : (parseG p).1 = .mk 2 [] ts := by rw [e]
  refine ⟨by rw [e1]; exact ⟨by decide, by decide, fun h => absurd h (by decide), fun t h => wpiece_good (hpc t h) d⟩, ?_⟩
  have e2 : matchG p s = gm (ts.map pcOf) s := by
    unfold matchG; rw [e]; show (decide ((0 : Int) = 0) && _) = _; simp
  rw [e2, e1]
  have e3 : tabT s (d + 3) (.mk 2 [] ts) = ts.foldl (fun T t => bothT T (tabT s (d + 2) t) (s.length + 1)) eqT := by
    show (if (2 : Int) = 1 then _ else _) = _
    rw [if_neg (by decide), if_pos rfl]
  rw [e3, Bool.eq_iff_iff, fold_tab ts eqT hpc]
  constructor
  · intro h; exact ⟨0, by omega, by simp [eqT], h⟩
  · rintro ⟨m, _, h1, h2⟩
    obtain rfl : 0 = m := by simpa [eqT] using h1
    exact h2
/-- What a glob matches as a whole its tree finds from the beginning to the end. -/
theorem match_find {p s : List UInt8} {d : Nat} {a b : Int} {ok : Bool} (hc : (parseG p).2.1 = 0) (hg : GoodT d (parseG p).1) (hm : matchG p s = true) (hf : findR s d (parseG p).1 a b ok) : ok = true ∧ a = 0 ∧ b = (s.length : Int) := by
  obtain ⟨g3, e⟩ := wglobTab p s hc 0
  rw [hm] at e
  have hM := (tab_Mt (s := s) 3 (parseG p).1 0 s.length (Nat.zero_le _) (Nat.le_refl _)).1 e.symm
  rw [Mt_deep s g3 hg] at hM
  rcases hf with ⟨-, -, -, h⟩ | ⟨h1, f, u, h2, h3, hfl, hul, hM', hl, hgr⟩
  · exact absurd hM (h 0 s.length (Nat.zero_le _) (Nat.le_refl _))
  · have f0 : f = 0 := by
      rcases Nat.eq_zero_or_pos f with h0 | h0
      · exact h0
      · exact absurd hM (hgr 0 h0 s.length (Nat.le_refl _))
    subst f0
    have u0 : u = s.length := by
      rcases Nat.lt_or_ge u s.length with h0 | h0
      · exact absurd hM (hl s.length h0 (Nat.le_refl _))
      · omega
    exact ⟨h1, by omega, by omega⟩
end Go.Proofs.Ytponepcgokfiiaa
namespace Go.Proofs.Ytponepcgokfiiaa
open Go.RowKit Go.Maps

def AliveD (bs : List UInt8) (f u : Int) (W : World) (kind : Int) (s : ByteArray) (e : Ending) (W' : World) : Prop :=
  ∃ p X pp d t, e = .returned (.tuple #[.pointer (some ⟨p, 0, none⟩), .int .i64 0, .int .i64 0]) ∧ PatAt W' X p kind s pp d t ∧ findR bs d t f u true ∧ (∀ j, X j ∨ j = p → W.heap.size ≤ j) ∧ Below W.heap.size W W'
theorem aliveD_of {bs : List UInt8} {f u : Int} {kind : Int} {s : ByteArray} {t : Tr} {D : Nat} (hp : patP kind s.data.toList = (t, 0, 0)) (hg : GoodT D t) (hf : findR bs D t f u true) (W : World) : Calls Try.prog 13 #[.int .i64 kind, .string s] W (AliveD bs f u W kind s) := by
  refine (pcomp_any kind s W).mono ?_
  rintro e W' (⟨_, p, X, pp, d, rfl, hP, hx, hb⟩ | ⟨h0, _⟩)
  · rw [hp] at hP
    exact ⟨p, X, pp, d, t, rfl, hP, findR_deep hg hP.good hf, hx, hb⟩
  · rw [hp] at h0; exact absurd rfl h0
def tS2 : Tr := .mk 2 [] [setC 97, .mk 4 [] [.mk 3 [] [.mk 2 [] [.mk 1 (rangesL [(10, 10)] true) []], .mk 2 [] [setC 10]]]]
theorem pS2 : patP 3 [97, 40, 46, 124, 92, 110, 41, 42] = (tS2, 0, 0) := by kernel_rfl
theorem gS2 : GoodT 6 tS2 := by simp [GoodT, tS2, setC]
theorem fS1 : findR [120, 97, 98, 99] 4 tA2 1 4 true := findR_tab (f := 1) (u := 4) (by decide) (by decide) (by decide +kernel) (by decide +kernel) (by decide +kernel)
theorem fS2 : findR [120, 97, 98, 99] 6 tS2 1 4 true := findR_tab (f := 1) (u := 4) (by decide) (by decide) (by decide +kernel) (by decide +kernel) (by decide +kernel)
theorem mS : matchG [97, 42] [97, 98, 99] = true := by decide +kernel
set_option maxHeartbeats 4000000 in
set_option maxRecDepth 100000 in
theorem sound_any (w : World) : Calls Try.prog 28 #[] w (AlivePost w) := by
  have A1 := fun W => Lib.hid (aliveD_of (kind := 2) (s := ⟨#[97, 42]⟩) pA2 gA2 fS1 W)
  have A2 := fun W => Lib.hid (aliveD_of (kind := 3) (s := ⟨#[97, 40, 46, 124, 92, 110, 41, 42]⟩) pS2 gS2 fS2 W)
  have A3 := fun W => Lib.hid (match_any ⟨#[97, 42]⟩ ⟨#[97, 98, 99]⟩ W (by decide))
  rw [show (⟨#[97, 42]⟩ : ByteArray).data.toList = [97, 42] from rfl, show (⟨#[97, 98, 99]⟩ : ByteArray).data.toList = [97, 98, 99] from rfl, mS] at A3
  go_enter Try.func28, Try.ntmps28
  go_wp2_with fail
  refine (A1 _).out.mono ?_
  rintro e w1 ⟨p1, X1, pp1, d1, t1, rfl, hP1, hf1, hx1, hb1⟩
  have P1 := Lib.hid hP1
  have F1 := Lib.hid hf1
  have XA := Lib.hid hx1
  have B1 := Lib.hid hb1
  clear hP1 hf1 hx1 hb1
  go_wp2_with fail
  refine (A2 _).out.mono ?_
  rintro e w2 ⟨p2, X2, pp2, d2, t2, rfl, hP2, hf2, hx2, hb2⟩
  have B2 := Lib.hid (B1.out.trans (hb2.mono B1.out.size))
  have Q1 := Lib.hid (P1.out.below hb2)
  have a3 := (Below.refl w2.heap.size w2).alloc (Nat.le_refl _) (.cells #[.int .u8 120, .int .u8 97, .int .u8 98, .int .u8 99] 5 (4, 5))
  have L1 := Lib.hid (fun j hj => show j < w2.heap.size from by obtain ⟨st, hm⟩ := Q1.out.mach; exact hm.old (show X1 j from hj))
  have L2 := Lib.hid (fun j hj => show j < w2.heap.size from by obtain ⟨st, hm⟩ := hP2.mach; exact hm.old (show X2 j from hj))
  have AP := Lib.hid (fun j (h1 : j = pp1) => show ¬ (X2 j ∨ j = p2) from fun h => by
    have h2 := hx2 j h
    obtain ⟨st, hm⟩ := P1.out.mach
    have h3 := hm.old P1.out.in_
    omega)
  have F2 := Lib.hid hf2
  have XB := Lib.hid hx2
  have R1 := Lib.hid (Q1.out.below a3)
  have R2 := Lib.hid (hP2.below a3)
  have B3 := Lib.hid (B2.out.trans (a3.mono B2.out.size))
  have S3 := Lib.hid a3.size
  have hcv := conv_const
  clear hP2 hf2 hx2 hb2 a3
  go_wp2_with fail
  refine (pfind_any R1.out (bytes_new w2 [120, 97, 98, 99] (4, 5)) (fun _ b o e hb => by
    have e1 := Option.some.inj e
    injection e1 with e1 _ _
    subst e1
    exact Nat.lt_irrefl _ (L1.out _ hb)) (by decide)).mono ?_
  rintro e w3 ⟨a, b, ok, rfl, hf3, hP3, hk3⟩
  obtain ⟨rfl, rfl, rfl⟩ := findR_one hf3 F1.out
  have R3 := Lib.hid (R2.out.kept hk3 (fun j hj e => AP.out j e hj))
  have B4 := Lib.hid (B3.out.trans (hk3.below B3.out.size (fun j hj => by
    subst hj
    exact XA.out _ (.inl P1.out.in_))))
  have S4 := Lib.hid (Nat.le_trans S3.out hk3.size)
  clear hf3 hP3 hk3
  have a5 := (Below.refl w3.heap.size w3).alloc (Nat.le_refl _) (.cells #[.int .u8 120, .int .u8 97, .int .u8 98, .int .u8 99] 5 (4, 5))
  have R4 := Lib.hid (R3.out.below a5)
  have B5 := Lib.hid (B4.out.trans (a5.mono B4.out.size))
  clear a5
  go_wp2_with fail
  refine (pfind_any R4.out (bytes_new w3 [120, 97, 98, 99] (4, 5)) (fun _ b o e hb => by
    have e1 := Option.some.inj e
    injection e1 with e1 _ _
    subst e1
    have h1 := L2.out _ hb
    have h2 := S4.out
    omega) (by decide)).mono ?_
  rintro e w4 ⟨a, b, ok, rfl, hf4, hP4, hk4⟩
  obtain ⟨rfl, rfl, rfl⟩ := findR_one hf4 F2.out
  have B6 := Lib.hid (B5.out.trans (hk4.below B5.out.size (fun j hj => by
    subst hj
    exact Nat.le_trans B1.out.size (XB.out _ (.inl R3.out.in_)))))
  clear hf4 hP4 hk4
  go_wp2_with fail
  refine (A3 _).out.mono ?_
  rintro e w5 ⟨rfl, b5⟩
  go_wp2
  go_ret
  exact ⟨rfl, B6.out.trans (b5.mono B6.out.size)⟩
end Go.Proofs.Ytponepcgokfiiaa
namespace Go.Proofs.Ytponepcgokfiiaa
open Go.RowKit Go.Maps

def CompDone (W : World) (kind : Int) (s : ByteArray) (t : Tr) (e : Ending) (W' : World) : Prop :=
  ∃ p X pp d, e = .returned (.tuple #[.pointer (some ⟨p, 0, none⟩), .int .i64 0, .int .i64 0]) ∧ PatAt W' X p kind s pp d t ∧ (∀ j, X j ∨ j = p → W.heap.size ≤ j) ∧ Below W.heap.size W W'
theorem comp_done {kind : Int} {s : ByteArray} {t : Tr} {o : Nat} (hp : patP kind s.data.toList = (t, 0, o)) (W : World) : Calls Try.prog 13 #[.int .i64 kind, .string s] W (CompDone W kind s t) := by
  refine (pcomp_any kind s W).mono ?_
  rintro e W' (⟨_, p, X, pp, d, rfl, hP, hx, hb⟩ | ⟨h0, _⟩)
  · rw [hp] at hP
    exact ⟨p, X, pp, d, rfl, hP, hx, hb⟩
  · rw [hp] at h0; exact absurd rfl h0
theorem comp_bad {kind : Int} {s : ByteArray} {t : Tr} {c : Int} {o : Nat} (hp : patP kind s.data.toList = (t, c, o)) (hc : c ≠ 0) (W : World) : Calls Try.prog 13 #[.int .i64 kind, .string s] W fun e W' => e = .returned (.tuple #[.pointer none, .int .i64 c, .int .i64 (o : Nat)]) ∧ Below W.heap.size W W' := by
  refine (pcomp_any kind s W).mono ?_
  rintro e W' (⟨h0, _⟩ | ⟨_, h, hb⟩)
  · rw [hp] at h0; exact absurd h0 hc
  · rw [hp] at h; exact ⟨h, hb⟩
set_option maxHeartbeats 8000000 in
set_option maxRecDepth 100000 in
theorem wholePatterns_walk {w : World} (p : ByteArray) {A : Option Addr} {n c : Nat} {bs : List UInt8} (hb : BytesAt w A n bs) :
    Calls Try.prog 11 #[.string p, .slice A n c] w (AlivePost w) := by
  have H0 := Lib.hid hb
  clear hb
  have PA := fun W => Lib.hid (parse_any p W)
  by_cases hc : (parseG p.data.toList).2.1 = 0
  rotate_right
  · have hc' : ((parseG p.data.toList).2.1 != 0) = true := by simpa using hc
    have hc2 : ((parseG p.data.toList).2.1 == 0) = false := by simpa using hc
    clear hc
    generalize parseG p.data.toList = R at PA hc' hc2
    obtain ⟨t, cc, oo⟩ := R
    simp only at hc' hc2
    go_enter Try.func11, Try.ntmps11
    go_wp2_with fail
    refine (sound_any _).mono ?_
    rintro e w1 ⟨rfl, b1⟩
    go_wp2_with fail
    refine (PA _).out.mono ?_
    rintro e w2 ⟨dt, k, A0, n0, c0, A1, n1, c1, rfl, ht, hb2⟩
    clear ht
    have B2 := Lib.hid ((b1.trans (hb2.mono b1.size)).alloc (Nat.le_trans b1.size hb2.size) (.cells #[.int .i64 k, .slice A0 n0 c0, .slice A1 n1 c1] 30))
    clear b1 hb2
    go_wp2
    go_ret
    exact ⟨rfl, B2.out⟩
  have HC := Lib.hid hc
  obtain ⟨t, oo, hR⟩ : ∃ t oo, parseG p.data.toList = (t, 0, oo) := ⟨_, _, Prod.ext rfl (Prod.ext hc rfl)⟩
  have GA := glob_alt hc
  have GB := glob_back hc
  have GM := fun (s : List UInt8) (d : Nat) (a b : Int) (ok : Bool) => match_find (p := p.data.toList) (s := s) (d := d) (a := a) (b := b) (ok := ok) hc
  rw [hR] at PA GA GB GM
  replace GA := Lib.hid GA.2
  replace GB := Lib.hid GB
  replace GM := Lib.hid GM
  have C2 := fun W => Lib.hid (comp_done (kind := 2) (s := p) (t := t) (o := oo) hR W)
  have MA := fun s W h => Lib.hid (match_any p s W h)
  clear hc hR
  rcases Nat.lt_or_ge 200 n with h200 | h200
  · have h200' : (200 : Int) < (n : Int) := by omega
    go_enter Try.func11, Try.ntmps11
    go_wp2_with fail
    refine (sound_any _).mono ?_
    rintro e w1 ⟨rfl, b1⟩
    go_wp2_with fail
    refine (PA _).out.mono ?_
    rintro e w2 ⟨dt, k, A0, n0, c0, A1, n1, c1, rfl, ht, hb2⟩
    clear ht
    have B2 := Lib.hid ((b1.trans (hb2.mono b1.size)).alloc (Nat.le_trans b1.size hb2.size) (.cells #[.int .i64 k, .slice A0 n0 c0, .slice A1 n1 c1] 30))
    clear b1 hb2
    go_wp2
    go_ret
    exact ⟨rfl, B2.out⟩
  have h200' : ¬ (200 : Int) < (n : Int) := by omega
  go_enter Try.func11, Try.ntmps11
  go_wp2_with fail
  refine (sound_any _).mono ?_
  rintro e w1 ⟨rfl, b1⟩
  have H1 := Lib.hid (H0.out.below b1)
  have B1 := Lib.hid b1
  clear b1
  go_wp2_with fail
  refine (PA _).out.mono ?_
  rintro e w2 ⟨dt, k, A0, n0, c0, A1, n1, c1, rfl, ht, hb2⟩
  have a2 := (Below.refl w2.heap.size w2).alloc (Nat.le_refl _) (.cells #[.int .i64 k, .slice A0 n0 c0, .slice A1 n1 c1] 30)
  have BK := Lib.hid (Blk.new w2 30 #[.int .i64 k, .slice A0 n0 c0, .slice A1 n1 c1])
  have T2 := Lib.hid (tree_below (ht.mono fun j hj => hj.2) a2)
  have H2 := Lib.hid ((H1.out.below hb2).below a2)
  have b2' := B1.out.trans (hb2.mono B1.out.size)
  have B2 := Lib.hid (b2'.trans (a2.mono b2'.size))
  have hs2 : w2.heap.size < (w2.alloc (.cells #[.int .i64 k, .slice A0 n0 c0, .slice A1 n1 c1] 30)).heap.size := by simp
  have HS2 := Lib.hid hs2
  clear ht hb2 a2 b2' hs2 PA
  go_wp2_with fail
  generalize (w2.alloc (.cells #[.int .i64 k, .slice A0 n0 c0, .slice A1 n1 c1] 30)) = w3 at BK T2 H2 B2 HS2 ⊢
  refine (C2 _).out.mono ?_
  rintro e w4 ⟨p1, X1, pp1, d1, rfl, hP1, hx1, hb4⟩
  have P1 := Lib.hid hP1
  have XA := Lib.hid hx1
  have H4 := Lib.hid (H2.out.below hb4)
  have HA1 := Lib.hid (bytes_old (w' := w4) (X := fun j => X1 j ∨ j = p1) H2.out hx1)
  have T4 := Lib.hid (tree_below T2.out hb4)
  have S4 := Lib.hid hb4.size
  obtain ⟨k0, k1, k2⟩ := blk3 (BK.out.below hb4 HS2.out)
  have B4 := Lib.hid (B2.out.trans (hb4.mono B2.out.size))
  clear hP1 hx1 hb4 C2 BK
  go_wp2_with fail
  refine (text_any t dt k A0 n0 c0 A1 n1 c1 _ T4.out GA.out.1 GA.out.2).mono ?_
  rintro e w5 ⟨rfl, hb5⟩
  have P5 := Lib.hid (P1.out.below hb5)
  have H5 := Lib.hid (H4.out.below hb5)
  have B5 := Lib.hid (B4.out.trans (hb5.mono B4.out.size))
  have S5 := Lib.hid (Nat.le_trans S4.out hb5.size)
  clear hb5 k0 k1 k2
  by_cases hl : 256 < (bodyT t).length
  · have C3 := fun W => Lib.hid (comp_bad (kind := 3) (s := ⟨(bodyT t).toArray⟩) (t := zeroT) (c := 2) (o := 0) (by
      show parseX (bodyT t).toArray.toList = _
      rw [List.toList_toArray, GB.out, if_pos hl]) (by decide) W)
    clear GB hl
    generalize (⟨(bodyT t).toArray⟩ : ByteArray) = tx at C3 ⊢
    go_wp2_with fail
    refine (C3 _).out.mono ?_
    rintro e w6 ⟨rfl, hb6⟩
    have B6 := Lib.hid (B5.out.trans (hb6.mono B5.out.size))
    clear hb6
    go_wp2
    go_ret
    exact ⟨rfl, B6.out⟩
  have C3 := fun W => Lib.hid (comp_done (kind := 3) (s := ⟨(bodyT t).toArray⟩) (t := t) (o := 0) (by
    show parseX (bodyT t).toArray.toList = _
    rw [List.toList_toArray, GB.out, if_neg hl]) W)
  clear GB hl
  generalize (⟨(bodyT t).toArray⟩ : ByteArray) = tx at C3 ⊢
  go_wp2_with fail
  refine (C3 _).out.mono ?_
  rintro e w6 ⟨p2, X2, pp2, d2, rfl, hP2, hx2, hb6⟩
  have P6 := Lib.hid (P5.out.below hb6)
  have Q6 := Lib.hid hP2
  have H6 := Lib.hid (H5.out.below hb6)
  have HA2 := Lib.hid (bytes_old (w' := w6) (X := fun j => X2 j ∨ j = p2) H5.out hx2)
  have B6 := Lib.hid (B5.out.trans (hb6.mono B5.out.size))
  have AP := Lib.hid (fun j (h1 : j = pp1) => show ¬ (X2 j ∨ j = p2) from fun h => by
    have h2 := hx2 j h
    obtain ⟨st, hm⟩ := P5.out.mach
    have h3 := hm.old P5.out.in_
    omega)
  have XB := Lib.hid hx2
  clear hP2 hx2 hb6 C3
  go_wp2_with fail
  refine (pfind_any P6.out H6.out (fun h b o e hb => HA1.out h b o e (.inl hb)) (by omega)).mono ?_
  rintro e w7 ⟨a, z, ok, rfl, hf7, hP7, hk7⟩
  have Q7 := Lib.hid (Q6.out.kept hk7 (fun j hj e => AP.out j e hj))
  have H7 := Lib.hid (BytesAt.keep (w' := w7) H6.out (fun hm b o e hl => hk7.block b hl (fun hb => HA1.out hm b o e (.inl (hb ▸ P6.out.in_)))) hk7.size)
  have B7 := Lib.hid (B6.out.trans (hk7.below B6.out.size (fun j hj => by
    subst hj
    exact Nat.le_trans B2.out.size (XA.out _ (.inl P1.out.in_)))))
  have F7 := Lib.hid hf7
  clear hf7 hP7 hk7
  go_wp2_with fail
  refine (pfind_any Q7.out H7.out (fun h b o e hb => HA2.out h b o e (.inl hb)) (by omega)).mono ?_
  rintro e w8 ⟨a', z', ok', rfl, hf8, hP8, hk8⟩
  obtain ⟨rfl, rfl, rfl⟩ := findR_one (findR_deep Q7.out.good P1.out.good hf8) F7.out
  have H8 := Lib.hid (BytesAt.keep (w' := w8) H7.out (fun hm b o e hl => hk8.block b hl (fun hb => HA2.out hm b o e (.inl (hb ▸ Q7.out.in_)))) hk8.size)
  have B8 := Lib.hid (B7.out.trans (hk8.below B7.out.size (fun j hj => by
    subst hj
    exact Nat.le_trans B5.out.size (XB.out _ (.inl Q7.out.in_)))))
  clear hf8 hP8 hk8
  have hcv := conv_str H8.out c
  have hbl : bs.length = n := H8.out.1
  have M8 := MA ⟨bs.toArray⟩ w8 (by unfold maxLen; show bs.toArray.size ≤ _; rw [List.size_toArray]; omega)
  have G8 := GM.out bs d1 a' z' ok' P1.out.good
  rw [show (⟨bs.toArray⟩ : ByteArray).data.toList = bs from rfl] at M8
  have F8 := F7.out
  cases hm : matchG p.data.toList bs with
  | false =>
    rw [hm] at M8
    clear G8 hm F8
    go_wp2_with fail
    refine M8.out.mono ?_
    rintro e w9 ⟨rfl, b9⟩
    go_wp2
    go_ret
    exact ⟨rfl, B8.out.trans (b9.mono B8.out.size)⟩
  | true =>
    rw [hm] at M8
    obtain ⟨rfl, rfl, rfl⟩ := G8 hm F8
    rw [hbl]
    clear hm F8
    go_wp2_with fail
    refine M8.out.mono ?_
    rintro e w9 ⟨rfl, b9⟩
    go_wp2
    go_ret
    exact ⟨rfl, B8.out.trans (b9.mono B8.out.size)⟩
end Go.Proofs.Ytponepcgokfiiaa
