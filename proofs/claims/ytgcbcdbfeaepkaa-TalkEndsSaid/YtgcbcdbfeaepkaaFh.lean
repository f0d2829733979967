/- The law's alive. Plain facts: a text quoted for a glob and for a regular expression is read as the text's own tree; what that tree matches. No program. -/
import Derived.Test.YtgcbcdbfeaepkaaFb
import Derived.Test.YtgcbcdbfeaepkaaFc
namespace Go.Proofs.Ytgcbcdbfeaepkaa
open Go.RowKit Go.Maps

theorem chR_congr {R R' : Tr → Nat → Nat → Prop} : ∀ (ts : List Tr), (∀ t, t ∈ ts → R t = R' t) → chR R ts = chR R' ts
  | [], _ => rfl
  | t :: ts, h => by
    funext i j
    show (∃ m, R t i m ∧ chR R ts m j) = (∃ m, R' t i m ∧ chR R' ts m j)
    rw [h t (List.mem_cons_self ..), chR_congr ts fun u hu => h u (List.mem_cons_of_mem _ hu)]
theorem Mt_step (s : List UInt8) : ∀ (d : Nat) (t : Tr), GoodT d t → Mt s (d + 1) t = Mt s d t
  | 0, _, h => h.elim
  | d + 1, .mk k rs kids, h => by
    have ih : ∀ t, t ∈ kids → Mt s (d + 1) t = Mt s d t := fun t ht => Mt_step s d t (h.2.2.2 t ht)
    unfold Mt
    by_cases h1 : k = 1
    · rw [if_pos h1, if_pos h1]
    rw [if_neg h1, if_neg h1]
    by_cases h2 : k = 2
    · rw [if_pos h2, if_pos h2, chR_congr kids ih]
    rw [if_neg h2, if_neg h2]
    by_cases h3 : k = 3
    · rw [if_pos h3, if_pos h3]
      funext i j
      apply propext
      exact ⟨fun ⟨t, ht, h⟩ => ⟨t, ht, by rw [← ih t ht]; exact h⟩, fun ⟨t, ht, h⟩ => ⟨t, ht, by rw [ih t ht]; exact h⟩⟩
    rw [if_neg h3, if_neg h3]
    by_cases h4 : k < 4 ∨ 6 < k
    · rw [if_pos h4, if_pos h4]
    rw [if_neg h4, if_neg h4]
    match kids, ih with
    | [], _ => rfl
    | t :: r, ih => simp only; rw [ih t (List.mem_cons_self ..)]
theorem Mt_add (s : List UInt8) {d : Nat} {t : Tr} (h : GoodT d t) : ∀ e, Mt s (d + e) t = Mt s d t
  | 0 => rfl
  | e + 1 => (Mt_step s (d + e) t (good_add d t h e).1).trans (Mt_add s h e)
theorem Mt_deep (s : List UInt8) {d d' : Nat} {t : Tr} (h : GoodT d t) (h' : GoodT d' t) : Mt s d t = Mt s d' t := by
  rw [← Mt_add s h d', ← Mt_add s h' d, Nat.add_comm]
theorem findR_deep {s : List UInt8} {d d' : Nat} {t : Tr} {a b : Int} {ok : Bool} (h : GoodT d t) (h' : GoodT d' t) (hf : findR s d t a b ok) : findR s d' t a b ok := by
  unfold findR at hf ⊢
  rw [← Mt_deep s h h']
  exact hf
def AliveC (W : World) (kind : Int) (s : ByteArray) (e : Ending) (W' : World) : Prop :=
  ∃ p X pp d t, e = .returned (.tuple #[.pointer (some ⟨p, 0, none⟩), .int .i64 0, .int .i64 0]) ∧ PatAt W' X p kind s pp d t ∧ findR [120, 97, 98] d t 1 3 true ∧ (∀ j, X j ∨ j = p → W.heap.size ≤ j) ∧ Below W.heap.size W W'
theorem aliveC_of {kind : Int} {s : ByteArray} {t : Tr} {D : Nat} (hp : patP kind s.data.toList = (t, 0, 0)) (hg : GoodT D t) (hf : findR [120, 97, 98] D t 1 3 true) (W : World) : Calls Try.prog 25 #[.int .i64 kind, .string s] W (AliveC W kind s) := by
  refine (pcomp_any kind s W).mono ?_
  rintro e W' (⟨_, p, X, pp, d, rfl, hP, hx, hb⟩ | ⟨h0, _⟩)
  · rw [hp] at hP
    exact ⟨p, X, pp, d, t, rfl, hP, findR_deep hg hP.good hf, hx, hb⟩
  · rw [hp] at h0; exact absurd rfl h0
def tA1 : Tr := .mk 2 [] [setC 97, setC 98]
def tA2 : Tr := .mk 2 [] [setC 97, .mk 4 [] [anyT]]
def tA3 : Tr := .mk 3 [] [.mk 2 [] [setC 98], .mk 2 [] [setC 97, setC 98]]
theorem pA1 : patP 1 [97, 98] = (tA1, 0, 0) := by kernel_rfl
theorem pA2 : patP 2 [97, 42] = (tA2, 0, 0) := by kernel_rfl
theorem pA3 : patP 3 [98, 124, 97, 98] = (tA3, 0, 0) := by kernel_rfl
theorem gA1 : GoodT 4 tA1 := by simp [GoodT, tA1, setC]
theorem gA2 : GoodT 4 tA2 := by simp [GoodT, tA2, setC, anyT]
theorem gA3 : GoodT 4 tA3 := by simp [GoodT, tA3, setC]
theorem fA1 : findR [120, 97, 98] 4 tA1 1 3 true := findR_tab (f := 1) (u := 3) (by decide) (by decide) (by decide +kernel) (by decide +kernel) (by decide +kernel)
theorem fA2 : findR [120, 97, 98] 4 tA2 1 3 true := findR_tab (f := 1) (u := 3) (by decide) (by decide) (by decide +kernel) (by decide +kernel) (by decide +kernel)
theorem fA3 : findR [120, 97, 98] 4 tA3 1 3 true := findR_tab (f := 1) (u := 3) (by decide) (by decide) (by decide +kernel) (by decide +kernel) (by decide +kernel)
def txtA (j : Nat) : ByteArray := match j with | 0 => ⟨#[]⟩ | 1 => ⟨#[97, 98]⟩ | 2 => ⟨#[97, 42]⟩ | _ => ⟨#[98, 124, 97, 98]⟩
def AlivePost (w : World) (e : Ending) (w' : World) : Prop := e = .returned (.bool true) ∧ Below w.heap.size w w'
set_option maxHeartbeats 4000000 in
set_option maxRecDepth 100000 in
theorem palive_any (w : World) : Calls Try.prog 24 #[] w (AlivePost w) := by
  have hcv := conv_const
  have A1 := fun W => Lib.hid (aliveC_of (kind := 1) (s := ⟨#[97, 98]⟩) pA1 gA1 fA1 W)
  have A2 := fun W => Lib.hid (aliveC_of (kind := 2) (s := ⟨#[97, 42]⟩) pA2 gA2 fA2 W)
  have A3 := fun W => Lib.hid (aliveC_of (kind := 3) (s := ⟨#[98, 124, 97, 98]⟩) pA3 gA3 fA3 W)
  have hbk := Blk.new w 9 #[.string ⟨#[]⟩, .string ⟨#[97, 98]⟩, .string ⟨#[97, 42]⟩, .string ⟨#[98, 124, 97, 98]⟩]
  have hb0 := (Below.refl w.heap.size w).alloc (Nat.le_refl _) (.cells #[.string ⟨#[]⟩, .string ⟨#[97, 98]⟩, .string ⟨#[97, 42]⟩, .string ⟨#[98, 124, 97, 98]⟩] 9)
  have HBK := Lib.hid hbk
  have HB0 := Lib.hid hb0
  have hs0 : w.heap.size < (w.alloc (.cells #[.string ⟨#[]⟩, .string ⟨#[97, 98]⟩, .string ⟨#[97, 42]⟩, .string ⟨#[98, 124, 97, 98]⟩] 9)).heap.size := by simp
  clear hbk hb0
  go_enter Try.func24, Try.ntmps24
  go_wp2_with fail
  go_loopw [11] (fun i wr => ∃ j : Nat, j ≤ 4 ∧ i = .int .i64 (j : Nat) ∧ Below (w.alloc (.cells #[.string ⟨#[]⟩, .string ⟨#[97, 98]⟩, .string ⟨#[97, 42]⟩, .string ⟨#[98, 124, 97, 98]⟩] 9)).heap.size (w.alloc (.cells #[.string ⟨#[]⟩, .string ⟨#[97, 98]⟩, .string ⟨#[97, 42]⟩, .string ⟨#[98, 124, 97, 98]⟩] 9)) wr) (fun i _ => 4 - (intOf i).toNat)
  case atStart => exact ⟨0, Nat.zero_le _, rfl, Below.refl _ _⟩
  case round =>
    obtain ⟨j, hj, rfl, hb⟩ := hrel
    have hbk := HBK.out.below hb hs0
    have q0 := hbk.cell 0; have q1 := hbk.cell 1; have q2 := hbk.cell 2; have q3 := hbk.cell 3
    have HB := Lib.hid hb
    clear hb hbk
    rcases (by omega : j = 0 ∨ j = 1 ∨ j = 2 ∨ j = 3 ∨ j = 4) with rfl | rfl | rfl | rfl | rfl
    · go_wp2
      go_roundw
      case rel => exact ⟨1, by omega, rfl, HB.out⟩
      case measure => simp [intOf]
    rotate_right
    · go_wp2
      go_ret
      exact ⟨rfl, HB0.out.trans (HB.out.mono (Nat.le_of_lt hs0))⟩
    all_goals
      go_wp2_with fail
      first
        | ((with_reducible refine (A1 _).out.mono ?_))
        | ((with_reducible refine (A2 _).out.mono ?_))
        | ((with_reducible refine (A3 _).out.mono ?_))
      rintro e w2 ⟨p, X, pp, d, t, rfl, hP, hf, hx, hb2⟩
      have HF := Lib.hid hf
      have a3 := (Below.refl w2.heap.size w2).alloc (Nat.le_refl _) (.cells #[.int .u8 120, .int .u8 97, .int .u8 98] 5 (3, 4))
      have HP := Lib.hid (hP.below a3)
      have HX := Lib.hid hx
      have HB2 := Lib.hid ((HB.out.trans (hb2.mono HB.out.size)).trans (a3.mono (Nat.le_trans HB.out.size hb2.size)))
      have HXL := Lib.hid (fun j hj => show j < w2.heap.size from by obtain ⟨st, hm⟩ := hP.mach; exact hm.old (show X j from hj))
      have hpl := hP.top.lt
      have HS2 := Lib.hid hb2.size
      clear hP hf hx hb2 a3
      go_wp2_with fail
      refine (pfind_any HP.out (bytes_new w2 [120, 97, 98] (3, 4)) (fun _ b o e hb => by
        have e1 := Option.some.inj e
        injection e1 with e1 _ _
        subst e1
        exact Nat.lt_irrefl _ (HXL.out _ hb)) (by decide)).mono ?_
      rintro e w3 ⟨a, b, ok, rfl, hf3, hP3, hk3⟩
      obtain ⟨rfl, rfl, rfl⟩ := findR_one hf3 HF.out
      have HP3 := Lib.hid hP3
      have HB3 := Lib.hid (HB2.out.trans (hk3.below HB2.out.size (fun j hj => by
        subst hj
        exact Nat.le_trans HB.out.size (HX.out _ (.inl HP.out.in_)))))
      clear hf3 hP3 hk3
      go_wp2_with fail
      refine (pkind_any HP3.out).mono ?_
      rintro e w4 ⟨rfl, rfl⟩
      go_wp2_with fail
      refine (ptext_any HP3.out).mono ?_
      rintro e w4 ⟨rfl, rfl⟩
      go_wp2
      go_roundw
      case rel => first | exact ⟨2, by omega, rfl, HB3.out⟩ | exact ⟨3, by omega, rfl, HB3.out⟩ | exact ⟨4, by omega, rfl, HB3.out⟩
      case measure => simp [intOf]
end Go.Proofs.Ytgcbcdbfeaepkaa
namespace Go.Proofs.Ytgcbcdbfeaepkaa

/-- e stands for l in a glob: each byte as it is, or behind a backslash. -/
inductive EncG : List UInt8 → List UInt8 → Prop where
  | nil : EncG [] []
  | plain {c l e} (h : c ≠ 63 ∧ c ≠ 42 ∧ c ≠ 91 ∧ c ≠ 92) : EncG l e → EncG (c :: l) (c :: e)
  | quoted {c l e} : EncG l e → EncG (c :: l) (92 :: c :: e)
def specX (c : UInt8) : Bool := c == 124 || c == 40 || c == 41 || c == 42 || c == 43 || c == 63 || c == 46 || c == 91 || c == 92
inductive EncX : List UInt8 → List UInt8 → Prop where
  | nil : EncX [] []
  | plain {c l e} (h : specX c = false) : EncX l e → EncX (c :: l) (c :: e)
  | quoted {c l e} (h : specX c = true) : EncX l e → EncX (c :: l) (92 :: c :: e)
theorem starts_ne {c x : UInt8} {e : List UInt8} (h : x ≠ c) : starts [c] (x :: e) = false := by
  simp [starts, List.isPrefixOf]; exact fun e => h e.symm
theorem pieceG_plain {c : UInt8} {e : List UInt8} (h : c ≠ 63 ∧ c ≠ 42 ∧ c ≠ 91 ∧ c ≠ 92) : pieceG (c :: e) = .ok (setC c) 1 := by
  unfold pieceG
  rw [if_neg (by rw [starts_ne h.1]; decide), if_neg (by rw [starts_ne h.2.1]; decide), if_neg (by rw [starts_ne h.2.2.1]; decide)]
  simp [letterG, h.2.2.2, setC]
theorem pieceG_quoted {c : UInt8} {e : List UInt8} : pieceG (92 :: c :: e) = .ok (setC c) 2 := by
  unfold pieceG
  rw [if_neg (by rw [starts_ne (by decide)]; decide), if_neg (by rw [starts_ne (by decide)]; decide), if_neg (by rw [starts_ne (by decide)]; decide)]
  simp [letterG, setC]
theorem encG_pieces {l e : List UInt8} (h : EncG l e) : piecesF e = .ok (l.map setC) := by
  induction h with
  | nil => rfl
  | plain h _ ih => rw [piecesF_more (by simp) (pieceG_plain h)]; simp [ih, Ks.pre]
  | quoted _ ih => rw [piecesF_more (by simp) pieceG_quoted]; simp [ih, Ks.pre]
theorem encG_parse {l e : List UInt8} (h : EncG l e) (hl : e.length ≤ 256) : parseG e = (exactT l, 0, 0) := by
  unfold parseG
  rw [if_neg (by omega), encG_pieces h]
  rfl
theorem signX_enc {l e : List UInt8} (h : EncX l e) : signX e = 0 := by
  cases h with
  | nil => rfl
  | plain h _ =>
    simp only [signX, kindX]
    simp [specX] at h
    simp [h]
  | quoted h _ => simp [signX, kindX]
theorem signsX_enc {l e : List UInt8} (h : EncX l e) (t : Tr) : signsX t e = (t, 0) := signsX_none (signX_enc h) t
theorem spec_alnum {c : UInt8} (h : specX c = true) : alnumB c.toNat = false ∧ c ≠ 110 ∧ c ≠ 116 ∧ c ≠ 100 := by
  simp [specX] at h
  rcases h with (((((((rfl | rfl) | rfl) | rfl) | rfl) | rfl) | rfl) | rfl) | rfl <;> exact ⟨by decide, by decide, by decide, by decide⟩
theorem pieceX_plain {Al : List UInt8 → Pr} {c : UInt8} {l e : List UInt8} (h : specX c = false) (he : EncX l e) : pieceX Al (c :: e) = .ok (setC c) 1 := by
  have hs : signX (c :: e) = 0 := signX_enc (.plain h he)
  have ha : atomX Al (c :: e) = .ok (setC c) 1 := by
    have h' := h
    simp [specX] at h'
    unfold atomX
    rw [if_neg (by rw [hs]; decide), if_neg (by rw [starts_ne (by simp [h'])]; decide), if_neg (by rw [starts_ne (by simp [h'])]; decide), if_neg (by rw [starts_ne (by simp [h'])]; decide), if_neg (by simp [starts, List.isPrefixOf]; intro e; exact absurd e.symm (by simp [h']))]
    simp [letterX, h', setC]
  unfold pieceX
  rw [ha]
  simp [signsX_enc he]
theorem pieceX_quoted {Al : List UInt8 → Pr} {c : UInt8} {l e : List UInt8} (h : specX c = true) (he : EncX l e) : pieceX Al (92 :: c :: e) = .ok (setC c) 2 := by
  have hs : signX (92 :: c :: e) = 0 := signX_enc (.quoted h he)
  obtain ⟨h1, h2, h3, h4⟩ := spec_alnum h
  have ha : atomX Al (92 :: c :: e) = .ok (setC c) 2 := by
    unfold atomX
    rw [if_neg (by rw [hs]; decide), if_neg (by rw [starts_ne (by decide)]; decide), if_neg (by rw [starts_ne (by decide)]; decide), if_neg (by rw [starts_ne (by decide)]; decide), if_neg (by simp [starts, List.isPrefixOf]; exact fun e => h4 e.symm)]
    simp [letterX, h1, h2, h3, setC]
  unfold pieceX
  rw [ha]
  simp [signsX_enc he]
theorem encX_go {Al : List UInt8 → Pr} {l e : List UInt8} (h : EncX l e) : ∀ cur, goF Al cur e = .ok [.mk 2 [] (cur ++ l.map setC)] e.length := by
  induction h with
  | nil => intro cur; rw [goF_stop (by rfl)]; simp
  | @plain c l e h he ih =>
    intro cur
    have h' := h
    simp [specX] at h'
    rw [goF_more (by rw [starts_ne (by simp [h'])]; rfl) (starts_ne (by simp [h'])) (pieceX_plain h he)]
    simp [ih, Gl.pre]; omega
  | @quoted c l e h he ih =>
    intro cur
    rw [goF_more (by rw [starts_ne (by decide)]; rfl) (starts_ne (by decide)) (pieceX_quoted h he)]
    simp [ih, Gl.pre]; omega
theorem encX_parse {l e : List UInt8} (h : EncX l e) (hl : e.length ≤ 256) : parseX e = (exactT l, 0, 0) := by
  refine parseX_ok (n := e.length) hl ?_
  unfold wholeX
  rw [altX_go, encX_go h]
  simp [Gl.pr, altEnd, exactT, setC]
/-- What a text's own tree matches. -/
theorem exact_Mt {b : List UInt8} : ∀ (l : List UInt8) (d f u : Nat), GoodT d (exactT l) → f ≤ b.length → (Mt b d (exactT l) f u ↔ u = f + l.length ∧ u ≤ b.length ∧ (b.drop f).take l.length = l)
  | l, 0, _, _, h, _ => h.elim
  | l, d + 1, f, u, hg, hf => by
    have hk := hg.2.2.2
    have key : ∀ (l : List UInt8) (f : Nat), f ≤ b.length → (∀ t, t ∈ l.map (fun c => Tr.mk 1 [(c, c)] []) → GoodT d t) → (chR (Mt b d) (l.map fun c => .mk 1 [(c, c)] []) f u ↔ u = f + l.length ∧ u ≤ b.length ∧ (b.drop f).take l.length = l) := by
      intro l
      induction l with
      | nil =>
        intro f hf _
        simp only [List.map_nil, chR, List.length_nil, List.take_zero, and_true, Nat.add_zero]
        constructor
        · rintro rfl; exact ⟨rfl, hf⟩
        · rintro ⟨rfl, _⟩; rfl
      | cons c l ih =>
        intro f hf hgd
        match d, hgd with
        | 0, hgd => exact (hgd _ (List.mem_cons_self ..)).elim
        | d + 1, hgd =>
          have ih' := ih
          have hm : ∀ m, Mt b (d + 1) (.mk 1 [(c, c)] []) f m ↔ b[f]? = some c ∧ m = f + 1 := fun m => by
            unfold Mt
            rw [if_pos rfl, setT_iff]
            constructor
            · rintro ⟨x, hx, rfl, hin⟩
              refine ⟨?_, rfl⟩
              have : x = c := by
                simp [inR] at hin
                exact UInt8.toNat_inj.mp (by omega)
              rw [← this]; exact hx
            · rintro ⟨hx, rfl⟩
              exact ⟨c, hx, rfl, by simp [inR]⟩
          simp only [List.map_cons, chR]
          constructor
          · rintro ⟨m, h1, h2⟩
            obtain ⟨hx, rfl⟩ := (hm m).1 h1
            have hlt := (List.getElem?_eq_some_iff.1 hx).1
            obtain ⟨e1, e2, e3⟩ := (ih (f + 1) (by omega) (fun t ht => hgd t (List.mem_cons_of_mem _ ht))).1 h2
            refine ⟨by rw [e1, List.length_cons]; omega, e2, ?_⟩
            rw [List.drop_eq_getElem_cons hlt, List.length_cons, List.take_succ_cons, e3, (List.getElem?_eq_some_iff.1 hx).2]
          · rintro ⟨e1, e2, e3⟩
            have hlt : f < b.length := by rw [List.length_cons] at e1; omega
            rw [List.drop_eq_getElem_cons hlt, List.length_cons, List.take_succ_cons] at e3
            injection e3 with e4 e5
            refine ⟨f + 1, (hm _).2 ⟨by rw [List.getElem?_eq_getElem hlt, e4], rfl⟩, (ih (f + 1) (by omega) (fun t ht => hgd t (List.mem_cons_of_mem _ ht))).2 ⟨by rw [e1, List.length_cons]; omega, e2, e5⟩⟩
    have := key l f hf hk
    unfold exactT
    unfold Mt
    rw [if_neg (by decide), if_pos rfl]
    exact this
end Go.Proofs.Ytgcbcdbfeaepkaa
