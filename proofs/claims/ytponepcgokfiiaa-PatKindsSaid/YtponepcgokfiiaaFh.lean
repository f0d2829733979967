/- Plain facts: a text quoted for a glob and for a regular expression is read as the text's own tree; what that tree matches. No program. -/
import Derived.Test.YtponepcgokfiiaaFa
import Derived.Test.YtponepcgokfiiaaFg
namespace Go.Proofs.Ytponepcgokfiiaa

/-- e stands for l in a glob: each byte as it is, or behind a backslash. -/
inductive EncG : List UInt8 → List UInt8 → Prop where
  | nil : EncG [] []
  | plain {c l e} (h : c ≠ 63 ∧ c ≠ 42 ∧ c ≠ 91 ∧ c ≠ 92) : EncG l e → EncG (c :: l) (c :: e)
  | quoted {c l e} : EncG l e → EncG (c :: l) (92 :: c :: e)
def specX (c : UInt8) : Bool := c == 124 || c == 40 || c == 41 || c == 42 || c == 43 || c == 63 || c == 46 || c == 91 || c == 92
inductive EncX : List UInt8 → List UInt8 → Prop where
  | nil : EncX [] []
  | plain {c l e} (h : specX c = false) : EncX l e → EncX (c :: l) (c :: e)
  | quoted {c l e} (h : specX c = true) : EncX l e → EncX (c :: l) (92 :: c :: e)
theorem starts_ne {c x : UInt8} {e : List UInt8} (h : x ≠ c) : starts [c] (x :: e) = false := by
  simp [starts, List.isPrefixOf]; exact fun e => h e.symm
theorem pieceG_plain {c : UInt8} {e : List UInt8} (h : c ≠ 63 ∧ c ≠ 42 ∧ c ≠ 91 ∧ c ≠ 92) : pieceG (c :: e) = .ok (setC c) 1 := by
  unfold pieceG
  rw [if_neg (by rw [starts_ne h.1]; decide), if_neg (by rw [starts_ne h.2.1]; decide), if_neg (by rw [starts_ne h.2.2.1]; decide)]
  simp [letterG, h.2.2.2, setC]
theorem pieceG_quoted {c : UInt8} {e : List UInt8} : pieceG (92 :: c :: e) = .ok (setC c) 2 := by
  unfold pieceG
  rw [if_neg (by rw [starts_ne (by decide)]; decide), if_neg (by rw [starts_ne (by decide)]; decide), if_neg (by rw [starts_ne (by decide)]; decide)]
  simp [letterG, setC]
theorem encG_pieces {l e : List UInt8} (h : EncG l e) : piecesF e = .ok (l.map setC) := by
  induction h with
  | nil => rfl
  | plain h _ ih => rw [piecesF_more (by simp) (pieceG_plain h)]; simp [ih, Ks.pre]
  | quoted _ ih => rw [piecesF_more (by simp) pieceG_quoted]; simp [ih, Ks.pre]
theorem encG_parse {l e : List UInt8} (h : EncG l e) (hl : e.length ≤ 256) : parseG e = (exactT l, 0, 0) := by
  unfold parseG
  rw [if_neg (by omega), encG_pieces h]
  rfl
theorem signX_enc {l e : List UInt8} (h : EncX l e) : signX e = 0 := by
  cases h with
  | nil => rfl
  | plain h _ =>
    simp only [signX, kindX]
    simp [specX] at h
    simp [h]
  | quoted h _ => simp [signX, kindX]
theorem signsX_enc {l e : List UInt8} (h : EncX l e) (t : Tr) : signsX t e = (t, 0) := signsX_none (signX_enc h) t
theorem spec_alnum {c : UInt8} (h : specX c = true) : alnumB c.toNat = false ∧ c ≠ 110 ∧ c ≠ 116 ∧ c ≠ 100 := by
  simp [specX] at h
  rcases h with (((((((rfl | rfl) | rfl) | rfl) | rfl) | rfl) | rfl) | rfl) | rfl <;> exact ⟨by decide, by decide, by decide, by decide⟩
theorem pieceX_plain {Al : List UInt8 → Pr} {c : UInt8} {l e : List UInt8} (h : specX c = false) (he : EncX l e) : pieceX Al (c :: e) = .ok (setC c) 1 := by
  have hs : signX (c :: e) = 0 := signX_enc (.plain h he)
  have ha : atomX Al (c :: e) = .ok (setC c) 1 := by
    have h' := h
    simp [specX] at h'
    unfold atomX
    rw [if_neg (by rw [hs]; decide), if_neg (by rw [starts_ne (by simp [h'])]; decide), if_neg (by rw [starts_ne (by simp [h'])]; decide), if_neg (by rw [starts_ne (by simp [h'])]; decide), if_neg (by simp [starts, List.isPrefixOf]; intro e; exact absurd e.symm (by simp [h']))]
    simp [letterX, h', setC]
  unfold pieceX
  rw [ha]
  simp [signsX_enc he]
theorem pieceX_quoted {Al : List UInt8 → Pr} {c : UInt8} {l e : List UInt8} (h : specX c = true) (he : EncX l e) : pieceX Al (92 :: c :: e) = .ok (setC c) 2 := by
  have hs : signX (92 :: c :: e) = 0 := signX_enc (.quoted h he)
  obtain ⟨h1, h2, h3, h4⟩ := spec_alnum h
  have ha : atomX Al (92 :: c :: e) = .ok (setC c) 2 := by
    unfold atomX
    rw [if_neg (by rw [hs]; decide), if_neg (by rw [starts_ne (by decide)]; decide), if_neg (by rw [starts_ne (by decide)]; decide), if_neg (by rw [starts_ne (by decide)]; decide), if_neg (by simp [starts, List.isPrefixOf]; exact fun e => h4 e.symm)]
    simp [letterX, h1, h2, h3, setC]
  unfold pieceX
  rw [ha]
  simp [signsX_enc he]
theorem encX_go {Al : List UInt8 → Pr} {l e : List UInt8} (h : EncX l e) : ∀ cur, goF Al cur e = .ok [.mk 2 [] (cur ++ l.map setC)] e.length := by
  induction h with
  | nil => intro cur; rw [goF_stop (by rfl)]; simp
  | @plain c l e h he ih =>
    intro cur
    have h' := h
    simp [specX] at h'
    rw [goF_more (by rw [starts_ne (by simp [h'])]; rfl) (starts_ne (by simp [h'])) (pieceX_plain h he)]
    simp [ih, Gl.pre]; omega
  | @quoted c l e h he ih =>
    intro cur
    rw [goF_more (by rw [starts_ne (by decide)]; rfl) (starts_ne (by decide)) (pieceX_quoted h he)]
    simp [ih, Gl.pre]; omega
theorem encX_parse {l e : List UInt8} (h : EncX l e) (hl : e.length ≤ 256) : parseX e = (exactT l, 0, 0) := by
  refine parseX_ok (n := e.length) hl ?_
  unfold wholeX
  rw [altX_go, encX_go h]
  simp [Gl.pr, altEnd, exactT, setC]
/-- What a text's own tree matches. -/
theorem exact_Mt {b : List UInt8} : ∀ (l : List UInt8) (d f u : Nat), GoodT d (exactT l) → f ≤ b.length → (Mt b d (exactT l) f u ↔ u = f + l.length ∧ u ≤ b.length ∧ (b.drop f).take l.length = l)
  | l, 0, _, _, h, _ => h.elim
  | l, d + 1, f, u, hg, hf => by
    have hk := hg.2.2.2
    have key : ∀ (l : List UInt8) (f : Nat), f ≤ b.length → (∀ t, t ∈ l.map (fun c => Tr.mk 1 [(c, c)] []) → GoodT d t) → (chR (Mt b d) (l.map fun c => .mk 1 [(c, c)] []) f u ↔ u = f + l.length ∧ u ≤ b.length ∧ (b.drop f).take l.length = l) := by
      intro l
      induction l with
      | nil =>
        intro f hf _
        simp only [List.map_nil, chR, List.length_nil, List.take_zero, and_true, Nat.add_zero]
        constructor
        · rintro rfl; exact ⟨rfl, hf⟩
        · rintro ⟨rfl, _⟩; rfl
      | cons c l ih =>
        intro f hf hgd
        match d, hgd with
        | 0, hgd => exact (hgd _ (List.mem_cons_self ..)).elim
        | d + 1, hgd =>
          have ih' := ih
          have hm : ∀ m, Mt b (d + 1) (.mk 1 [(c, c)] []) f m ↔ b[f]? = some c ∧ m = f + 1 := fun m => by
            unfold Mt
            rw [if_pos rfl, setT_iff]
            constructor
            · rintro ⟨x, hx, rfl, hin⟩
              refine ⟨?_, rfl⟩
              have : x = c := by
                simp [inR] at hin
                exact UInt8.toNat_inj.mp (by omega)
              rw [← this]; exact hx
            · rintro ⟨hx, rfl⟩
              exact ⟨c, hx, rfl, by simp [inR]⟩
          simp only [List.map_cons, chR]
          constructor
          · rintro ⟨m, h1, h2⟩
            obtain ⟨hx, rfl⟩ := (hm m).1 h1
            have hlt := (List.getElem?_eq_some_iff.1 hx).1
            obtain ⟨e1, e2, e3⟩ := (ih (f + 1) (by omega) (fun t ht => hgd t (List.mem_cons_of_mem _ ht))).1 h2
            refine ⟨by rw [e1, List.length_cons]; omega, e2, ?_⟩
            rw [List.drop_eq_getElem_cons hlt, List.length_cons, List.take_succ_cons, e3, (List.getElem?_eq_some_iff.1 hx).2]
          · rintro ⟨e1, e2, e3⟩
            have hlt : f < b.length := by rw [List.length_cons] at e1; omega
            rw [List.drop_eq_getElem_cons hlt, List.length_cons, List.take_succ_cons] at e3
            injection e3 with e4 e5
            refine ⟨f + 1, (hm _).2 ⟨by rw [List.getElem?_eq_getElem hlt, e4], rfl⟩, (ih (f + 1) (by omega) (fun t ht => hgd t (List.mem_cons_of_mem _ ht))).2 ⟨by rw [e1, List.length_cons]; omega, e2, e5⟩⟩
    have := key l f hf hk
    unfold exactT
    unfold Mt
    rw [if_neg (by decide), if_pos rfl]
    exact this
end Go.Proofs.Ytponepcgokfiiaa
